/- Contracts of ratio: Cmp, told. -/
import Derived.Test.YtgilnmhejjpleaaGreatPRf
namespace Go.Proofs.YtgilnmhejjpleaaGreat
open Go.RowKit
attribute [local go_sem ↓] Go.wp_at_zero Go.wp_at_succ
set_option linter.unusedVariables false
theorem j0v2 {P:Prop}(h:P:=by rw [← hW]; exact halloc (halloc (Below.refl _ _))):P:=h
theorem j89b {P:Prop}(h:P:=by rw [hWF]; exact z2_5.out.other4 Kr_5.out nu nu nu nu):P:=h
theorem jp32 {P:Prop}(h:P:=by rw [hWF]; exact z_5.out.other4 Kr_5.out nu nu nu nu):P:=h
theorem jr01 {P:Prop}(h:P:=by simp [results, Tryz.results91, go_sem, e0, e1, e2, e3] <;> omega):P:=h
theorem LimP.form {k:Nat} {w:World} {v:Value} {q:Rat}(h:LimP k w v q) : ∃b A n c b' A' n' c',v = .agg #[.bool b,.slice A n c,.bool b',.slice A' n' c']∧LimP k w (.agg #[.bool b,.slice A n c,.bool b',.slice A' n' c']) q:=by
 obtain⟨X,Y,h,hY,rfl⟩:=h
 obtain⟨b,A,n,c,b',A',n',c',rfl,h1,h2⟩:=h.form
 exact⟨b,A,n,c,b',A',n',c',rfl,X,Y,limR_mk h1 h2,hY,rfl⟩
theorem LimP.parts {k:Nat} {w:World} {b b':Bool} {m m':Value} {q:Rat}(h:LimP k w (.agg #[.bool b,m,.bool b',m']) q) : ∃X Y,LimI k w (.agg #[.bool b,m]) X∧LimI k w (.agg #[.bool b',m']) Y∧0<Y∧q=Rat.divInt X Y:=by
 obtain⟨X,Y,⟨_,_,_,_,e,h1,h2⟩,hY,rfl⟩:=h
 injection e with e
 injection e with e
 simp at e
 obtain⟨rfl,rfl,rfl,rfl⟩:=e
 exact⟨X,Y,h1,h2,hY,rfl⟩
def TCut(w:World)(ga gb:Nat)(k l:Nat)(x y:Rat)(wx:World):Prop :=
 ∃b A n c b' A' n' c' p P m d p' P' m' d',Blk wx ga 36 #[.bool b,.slice A n c,.bool b',.slice A' n' c']∧Blk wx gb 36 #[.bool p,.slice P m d,.bool p',.slice P' m' d']∧
  LimP k wx (.agg #[.bool b,.slice A n c,.bool b',.slice A' n' c']) x∧LimP l wx (.agg #[.bool p,.slice P m d,.bool p',.slice P' m' d']) y∧Below w.heap.size w wx
def cmpQ(x y:Rat):Int:=if x<y then -1 else if x=y then 0 else 1
theorem cmp_parts {X Y X' Y':Int}(hY:0<Y)(hY':0<Y'):cmpI (X*Y') (X'*Y)=cmpQ (Rat.divInt X Y) (Rat.divInt X' Y'):=by
 obtain⟨e1,e2,g0⟩:=divInt_parts X hY
 obtain⟨e3,e4,g0'⟩:=divInt_parts X' hY'
 have l1:Rat.divInt X Y<Rat.divInt X' Y'↔X*Y'<X'*Y:=by
  rw [Rat.lt_iff]
  generalize (Rat.divInt X Y).num=a at *
  generalize ((Rat.divInt X Y).den:Int)=b at *
  generalize (Rat.divInt X' Y').num=a' at *
  generalize ((Rat.divInt X' Y').den:Int)=b' at *
  generalize Int.gcd X Y=g at *
  generalize Int.gcd X' Y'=g' at *
  have hg:(0:Int)<(g:Int)*(g':Int):=Int.mul_pos j0i3 j0i3
  rw [← e1,← e2,← e3,← e4,show a*(g:Int)*(b'*(g':Int))=a*b'*((g:Int)*(g':Int)) by grind,show a'*(g':Int)*(b*(g:Int))=a'*b*((g:Int)*(g':Int)) by grind]
  exact(Int.mul_lt_mul_right hg).symm
 have l2:Rat.divInt X Y=Rat.divInt X' Y'↔X*Y'=X'*Y:=Rat.divInt_eq_divInt_iff j0i3 j0i3
 unfold cmpI cmpQ
 by_cases h1:X*Y'<X'*Y
 ·rw [if_pos h1,if_pos (l1.2 h1)]
 ·rw [if_neg h1,if_neg (fun h=>h1 (l1.1 h))]
  by_cases h2:X*Y'=X'*Y
  ·rw [if_pos h2,if_pos (l2.2 h2)]
  ·rw [if_neg h2,if_neg (fun h=>h2 (l2.1 h))]
theorem isNaN_any(a:Int)(w:World):Calls Tryz.prog 115 #[.int .i64 a] w fun e w'=>e = .returned (.bool false)∧w'=w:=by
 go_enter Tryz.func115,Tryz.ntmps115
 go_wp2
 go_ret
 exact⟨rfl,rfl⟩
set_option maxHeartbeats 1000000 in
theorem compare_any(a b:Int)(w:World):Calls Tryz.prog 94 #[.int .i64 a,.int .i64 b] w fun e w'=>e = .returned (.int .i64 (cmpI a b))∧w'=w:=by
 rcases Int.lt_trichotomy a b with h | h | h
 ·rw [show cmpI a b = -1 from if_pos h]
  go_enter Tryz.func94,Tryz.ntmps94
  go_wp2_with fail
  refine(isNaN_any a _).mono ?_
  rintro e w' ⟨rfl,rfl⟩
  go_wp2_with fail
  refine(isNaN_any b _).mono ?_
  rintro e w' ⟨rfl,rfl⟩
  go_wp2
  go_ret
  exact⟨rfl,rfl⟩
 ·subst h
  rw [show cmpI a a=0 from by unfold cmpI;rw [if_neg j0i3,if_pos rfl]]
  go_enter Tryz.func94,Tryz.ntmps94
  go_wp2_with fail
  refine(isNaN_any a _).mono ?_
  rintro e w' ⟨rfl,rfl⟩
  go_wp2_with fail
  refine(isNaN_any a _).mono ?_
  rintro e w' ⟨rfl,rfl⟩
  go_wp2
  go_ret
  exact⟨rfl,rfl⟩
 ·rw [show cmpI a b=1 from by unfold cmpI;rw [if_neg j0i3,if_neg j0i3]]
  go_enter Tryz.func94,Tryz.ntmps94
  go_wp2_with fail
  refine(isNaN_any a _).mono ?_
  rintro e w' ⟨rfl,rfl⟩
  go_wp2_with fail
  refine(isNaN_any b _).mono ?_
  rintro e w' ⟨rfl,rfl⟩
  go_wp2
  go_ret
  exact⟨rfl,rfl⟩
theorem inWords_no {k l:Nat} {X Y X' Y':Int}(b:Bool)(A:Option Addr)(n c:Nat)(b':Bool)(A':Option Addr)(n' c':Nat)(p:Bool)(P:Option Addr)(m d:Nat)(p':Bool)(P':Option Addr)(m' d':Nat)(w:World)
 (hx:LimI k w (.agg #[.bool b,.slice A n c]) X) (hy:LimI k w (.agg #[.bool b',.slice A' n' c']) Y) (hx':LimI l w (.agg #[.bool p,.slice P m d]) X') (hy':LimI l w (.agg #[.bool p',.slice P' m' d']) Y') (hk:k≤100000) (hl:l≤100000) (h0:0<Y) (h0':0<Y') (h : ¬ (Short X Y∧Short X' Y')) :
 Calls Tryz.prog 93 #[.agg #[.bool b,.slice A n c,.bool b',.slice A' n' c'],.agg #[.bool p,.slice P m d,.bool p',.slice P' m' d']] w fun e w'=>WNo w w' e:=by
 by_cases h2:Short X Y
 ·exact inWords_no2 b A n c b' A' n' c' p P m d p' P' m' d' w k l X Y X' Y' hx hy hx' hy' hk hl h0 h0' h2.1 h2.2.1 h2.2.2 fun h3=>h ⟨h2,h3⟩
 ·exact inWords_no1 b A n c b' A' n' c' p P m d p' P' m' d' w k l X Y X' Y' hx hy hx' hy' hk hl h0 h0' h2
set_option maxRecDepth 100000 in
set_option maxHeartbeats 4000000 in
theorem cmp_q0(b:Bool)(A:Option Addr)(n c:Nat)(b':Bool)(A':Option Addr)(n' c':Nat)(p:Bool)(P:Option Addr)(m d:Nat)(p':Bool)(P':Option Addr)(m' d':Nat)(w:World)(k l:Nat)(x y:Rat)(hx:LimQ k w (.agg #[.bool b,.slice A n c,.bool b',.slice A' n' c']) x)(hy:LimQ l w (.agg #[.bool p,.slice P m d,.bool p',.slice P' m' d']) y)(hk:k≤40000)(hl:l≤40000)(h1:1≤k)(h1':1≤l) :
 Calls Tryz.prog 57 #[(.agg #[.bool b,.slice A n c,.bool b',.slice A' n' c']),(.agg #[.bool p,.slice P m d,.bool p',.slice P' m' d'])] w fun e w'=>e = .returned (.int .i64 (cmpQ x y))∧Below w.heap.size w w':=by
 have x_0:=Lib.hid hx
 have y_0:=Lib.hid hy
 clear hx hy
 go_enter Tryz.func57,Tryz.ntmps57
 go_upto_region 1 with fail
 generalize hW:((w.alloc (.cells #[.bool b,.slice A n c,.bool b',.slice A' n' c'] 36)).alloc (.cells #[.bool p,.slice P m d,.bool p',.slice P' m' d'] 36))=w1
 have x_1:=Lib.hid (hW▸((x_0.out.alloc_ _).alloc_ _))
 have y_1:=Lib.hid (hW▸((y_0.out.alloc_ _).alloc_ _))
 have Ka_1:=Lib.hid (show Blk w1 (w.heap.size) 36 #[.bool b,.slice A n c,.bool b',.slice A' n' c'] from jtbf)
 have Kb_1:=Lib.hid (show Blk w1 (w.heap.size+1) 36 #[.bool p,.slice P m d,.bool p',.slice P' m' d'] from jc21)
 have HB_1:=Lib.hid (show Below w.heap.size w w1 from j0v2)
 have hs_1:w.heap.size≤w1.heap.size:=HB_1.out.size
 have hz_1:w.heap.size+2≤w1.heap.size := j59e
 clear hW x_0 y_0
 go_cut [2] (fun s2 wx=>s2 = .pointer (some ⟨w.heap.size,0,none⟩)∧TCut w (w.heap.size) (w.heap.size+1) k l x y wx)
 case first =>
  obtain⟨p10,p11,p12,p13,l1⟩:=Ka_1.out.use4
  obtain⟨p20,p21,p22,p23,l2⟩:=Kb_1.out.use4
  obtain⟨p30,p31,p32,p33,l3⟩:=Ka_1.out.use4
  obtain⟨p40,p41,p42,p43,l4⟩:=Kb_1.out.use4
  have tok0:True:=trivial
  have tok1:True:=trivial
  go_region_with
   (first
    |(go_at_call 92;have _t:=tok0;clear _t tok0;((with_reducible refine Calls.mono (q_taken j2om j0i3 h1) ?_));rintro e w2 ⟨v,rfl,h,hb⟩;obtain⟨b2,A2,n2,c2,d2,B2,m2,k2,rfl,h⟩:=h.form;have hB:=(show Below w1.heap.size w1 w2 from jfh7);have y_2:=Lib.hid (y_1.out.below hB);have Ka_2:=Lib.hid (Ka_1.out.below hB);have Kb_2:=Lib.hid (Kb_1.out.below hB);have f_2:=Lib.hid (h);have HB_2:=Lib.hid (below_trans HB_1.out hB);have hs_2:w.heap.size≤w2.heap.size:=HB_2.out.size;have hz_2:w1.heap.size+0≤w2.heap.size := jrv7;clear hB hb x_1 y_1 Ka_1 Kb_1 HB_1 p30 p31 p32 p33 l3 p40 p41 p42 p43 l4;obtain⟨p50,p51,p52,p53,l5⟩:=Ka_2.out.use4;obtain⟨p60,p61,p62,p63,l6⟩:=Kb_2.out.use4)
    |(go_at_call 92;have _t:=tok1;clear _t tok1;((with_reducible refine Calls.mono (q_taken jwyo j0i3 h1') ?_));rintro e w3 ⟨v,rfl,h,hb⟩;obtain⟨b3,A3,n3,c3,d3,B3,m3,k3,rfl,h⟩:=h.form;have hB:=(show Below w2.heap.size w2 w3 from jfh7);have f_3:=Lib.hid (f_2.out.below hB);have Ka_3:=Lib.hid (Ka_2.out.below hB);have Kb_3:=Lib.hid (Kb_2.out.below hB);have g_3:=Lib.hid (h);have HB_3:=Lib.hid (below_trans HB_2.out hB);have hs_3:w.heap.size≤w3.heap.size:=HB_3.out.size;have hz_3:w2.heap.size+0≤w3.heap.size := jrv7;clear hB hb y_2 f_2 Ka_2 Kb_2 HB_2 p50 p51 p52 p53 l5 p60 p61 p62 p63 l6;obtain⟨p70,p71,p72,p73,l7⟩:=Ka_3.out.use4;obtain⟨p80,p81,p82,p83,l8⟩:=Kb_3.out.use4;obtain⟨p90,p91,p92,p93,l9⟩:=Ka_3.out.use4;obtain⟨r90,r91,r92,r93⟩:=Ka_3.out.into4;obtain⟨p100,p101,p102,p103,l10⟩:=Kb_3.out.use4;obtain⟨r100,r101,r102,r103⟩:=Kb_3.out.into4))
  all_goals
   go_wp2_with fail
   go_meet
   exact⟨rfl,⟨_,_,_,_,_,_,_,_,_,_,_,_,_,_,_,_,Ka_3.out.own4.other4 j0i3,(Kb_3.out.other4 j0i3).own4,(f_3.out.other4 Ka_3.out nu nu nu nu).other4 (Kb_3.out.other4 j0i3) nu nu nu nu,(g_3.out.other4 Ka_3.out nu nu nu nu).other4 (Kb_3.out.other4 j0i3) nu nu nu nu,Below.set4 (Below.set4 HB_3.out j0i3) j0i3⟩⟩
 case rest =>
  obtain⟨rfl,⟨b1,A1,n1,c1,d1,B1,m1,k1,b2,A2,n2,c2,d2,B2,m2,k2,q1,q2,q3,q4,q5⟩⟩:=hcut
  have hs_2:w.heap.size≤wc.heap.size:=q5.size
  have Ka_2:=Lib.hid q1
  have Kb_2:=Lib.hid q2
  have f_2:=Lib.hid q3
  have g_2:=Lib.hid q4
  have HB_2:=Lib.hid q5
  clear q1 q2 q3 q4 q5
  try clear x_1 y_1 Ka_1 Kb_1  HB_1 hs_1 hz_1
  obtain⟨X,Y,s1,s2,hY,ex⟩:=f_2.out.parts
  obtain⟨X',Y',s3,s4,hY',ey⟩:=g_2.out.parts
  have x_2:=Lib.hid s1
  have y_2:=Lib.hid s2
  have u_2:=Lib.hid s3
  have v_2:=Lib.hid s4
  have Bx:=Lib.hid s1.lt
  have By:=Lib.hid s2.lt
  have Bu:=Lib.hid s3.lt
  have Bv:=Lib.hid s4.lt
  have EX:=Lib.hid ex
  have EY:=Lib.hid ey
  clear s1 s2 s3 s4 ex ey f_2 g_2
  have HC:Hid (cmpI (X*Y') (X'*Y)=cmpQ x y):=by rw [EX.out,EY.out];exact cmp_parts hY hY'
  clear EX EY
  by_cases hs:Short X Y∧Short X' Y'
  ·obtain⟨⟨s1,s2,s3⟩,s4,s5,s6⟩:=hs
   have m1:=mul31 (a:=X) (b:=Y') j0i3 j0i3 j0i3 j0i3
   have m2:=mul31 (a:=X') (b:=Y) j0i3 j0i3 j0i3 j0i3
   obtain⟨m1a,m1b⟩:=m1
   obtain⟨m2a,m2b⟩:=m2
   obtain⟨p10,p11,p12,p13,l1⟩:=Ka_2.out.use4
   obtain⟨p20,p21,p22,p23,l2⟩:=Kb_2.out.use4
   go_wp2_with fail
   refine Calls.mono (inWords_yes0 _ _ _ _ _ _ _ _ _ _ _ _ _ _ _ _ _ k l X Y X' Y' x_2.out y_2.out u_2.out v_2.out j0i3 j0i3 hY hY' s1 s2 s3 s4 s5 s6) ?_
   rintro e w3 ⟨rfl,hb⟩
   have hB:=hb
   have HB_3:=Lib.hid (below_trans HB_2.out hB)
   have hs_3:w.heap.size≤w3.heap.size:=HB_3.out.size
   have hz_3:wc.heap.size+0≤w3.heap.size := jrv7
   clear hB hb x_2 y_2 u_2 v_2 Ka_2 Kb_2 HB_2 p10 p11 p12 p13 l1 p20 p21 p22 p23 l2
   go_wp2_with fail
   refine(compare_any _ _ _).mono ?_
   rintro e w9 ⟨rfl,rfl⟩
   rw [HC.out]
   go_wp2
   go_ret
   exact⟨rfl,halloc (halloc (HB_3.out))⟩
  ·have HS:=Lib.hid hs
   clear hs
   obtain⟨p10,p11,p12,p13,l1⟩:=Ka_2.out.use4
   obtain⟨p20,p21,p22,p23,l2⟩:=Kb_2.out.use4
   go_wp2_with fail
   refine Calls.mono (inWords_no _ _ _ _ _ _ _ _ _ _ _ _ _ _ _ _ _ x_2.out y_2.out u_2.out v_2.out j0i3 j0i3 hY hY' HS.out) ?_
   rintro e w3 ⟨x3,y3,x4,y4,rfl,hb⟩
   have hB:=hb
   have x_3:=Lib.hid (x_2.out.below hB)
   have y_3:=Lib.hid (y_2.out.below hB)
   have u_3:=Lib.hid (u_2.out.below hB)
   have v_3:=Lib.hid (v_2.out.below hB)
   have Ka_3:=Lib.hid (Ka_2.out.below hB)
   have Kb_3:=Lib.hid (Kb_2.out.below hB)
   have HB_3:=Lib.hid (below_trans HB_2.out hB)
   have hs_3:w.heap.size≤w3.heap.size:=HB_3.out.size
   have hz_3:wc.heap.size+0≤w3.heap.size := jrv7
   clear hB hb x_2 y_2 u_2 v_2 Ka_2 Kb_2 HB_2 p10 p11 p12 p13 l1 p20 p21 p22 p23 l2
   go_wp2
   generalize hW:((w3.alloc (.cells #[.int .i64 x3,.int .i64 y3] 105)).alloc (.cells #[.int .i64 x4,.int .i64 y4] 105))=w4
   have x_4:=Lib.hid (hW▸((x_3.out.alloc_ _).alloc_ _))
   have y_4:=Lib.hid (hW▸((y_3.out.alloc_ _).alloc_ _))
   have u_4:=Lib.hid (hW▸((u_3.out.alloc_ _).alloc_ _))
   have v_4:=Lib.hid (hW▸((v_3.out.alloc_ _).alloc_ _))
   have Ka_4:=Lib.hid (show Blk w4 (w.heap.size) 36 #[.bool b1,.slice A1 n1 c1,.bool d1,.slice B1 m1 k1] from by rw [← hW];exact((Ka_3.out.alloc_ _).alloc_ _))
   have Kb_4:=Lib.hid (show Blk w4 (w.heap.size+1) 36 #[.bool b2,.slice A2 n2 c2,.bool d2,.slice B2 m2 k2] from by rw [← hW];exact((Kb_3.out.alloc_ _).alloc_ _))
   have Kp_4:=Lib.hid (show Blk w4 (w3.heap.size) 105 #[.int .i64 x3,.int .i64 y3] from jtbf)
   have Kq_4:=Lib.hid (show Blk w4 (w3.heap.size+1) 105 #[.int .i64 x4,.int .i64 y4] from jc21)
   have HB_4:=Lib.hid (show Below w.heap.size w w4 from by rw [← hW];exact halloc (halloc (HB_3.out)))
   have hs_4:w.heap.size≤w4.heap.size:=HB_4.out.size
   have hz_4:w3.heap.size+2≤w4.heap.size := j59e
   clear hW x_3 y_3 u_3 v_3 Ka_3 Kb_3 HB_3
   obtain⟨p30,p31,p32,p33,l3⟩:=Ka_4.out.use4
   obtain⟨p40,p41,p42,p43,l4⟩:=Kb_4.out.use4
   have tok0:True:=trivial
   have tok1:True:=trivial
   have tok2:True:=trivial
   go_region_held3 (fun w'=>w'.cell? ⟨w.heap.size,0,none⟩=some (.bool b1)∧w'.cell? ⟨w.heap.size,1,none⟩=some (.slice A1 n1 c1)∧w'.cell? ⟨w.heap.size,2,none⟩=some (.bool d1)∧w'.cell? ⟨w.heap.size,3,none⟩=some (.slice B1 m1 k1)∧w'.cell? ⟨w.heap.size+1,0,none⟩=some (.bool b2)∧w'.cell? ⟨w.heap.size+1,1,none⟩=some (.slice A2 n2 c2)∧w'.cell? ⟨w.heap.size+1,2,none⟩=some (.bool d2)∧w'.cell? ⟨w.heap.size+1,3,none⟩=some (.slice B2 m2 k2)) (first | (refine⟨?_,?_,?_,?_,?_,?_,?_,?_⟩ <;> (first | with_reducible assumption | ((with_reducible refine Eq.trans (cell_drew _ _) ?_);with_reducible assumption) | ((rw [cell_far4 _ _ _ _ _ _ _ _ j0i3]);with_reducible assumption) | ((rw [cell_far2 _ _ _ _ _ _ j0i3]);with_reducible assumption) | go_keep)) | trivial | go_keep)
    (first
     |(go_at_call 90;have _t:=tok0;clear _t tok0;((with_reducible refine Calls.mono (li_mul (by first | exact x_4.out | exact x_4.out.drew_ | exact x_4.out.alloc_ _ | exact(x_4.out.alloc_ _).drew_) j3iy j0i3 j0i3) ?_));rintro e w5 ⟨v,rfl,h,hb⟩;obtain⟨b5,A5,n5,c5,rfl,-,-,h⟩:=h.form;have hB:=(show Below w4.heap.size w4 w5 from jfh7);have x_5:=Lib.hid (x_4.out.below hB);have y_5:=Lib.hid (y_4.out.below hB);have u_5:=Lib.hid (u_4.out.below hB);have v_5:=Lib.hid (v_4.out.below hB);have Ka_5:=Lib.hid (Ka_4.out.below hB);have Kb_5:=Lib.hid (Kb_4.out.below hB);have Kp_5:=Lib.hid (Kp_4.out.below hB);have Kq_5:=Lib.hid (Kq_4.out.below hB);have f_5:=Lib.hid (h);have HB_5:=Lib.hid (below_trans HB_4.out hB);have hs_5:w.heap.size≤w5.heap.size:=HB_5.out.size;have hz_5:w4.heap.size+0≤w5.heap.size := jrv7;clear hB hb x_4 y_4 u_4 v_4 Ka_4 Kb_4 Kp_4 Kq_4 HB_4 p30 p31 p32 p33 l3 p40 p41 p42 p43 l4;obtain⟨p50,p51,p52,p53,l5⟩:=Ka_5.out.use4;obtain⟨p60,p61,p62,p63,l6⟩:=Kb_5.out.use4)
     |(go_at_call 90;have _t:=tok1;clear _t tok1;((with_reducible refine Calls.mono (li_mul (by first | exact u_5.out | exact u_5.out.drew_ | exact u_5.out.alloc_ _ | exact(u_5.out.alloc_ _).drew_) (by first | exact y_5.out | exact y_5.out.drew_ | exact y_5.out.alloc_ _ | exact(y_5.out.alloc_ _).drew_) j0i3 j0i3) ?_));rintro e w6 ⟨v,rfl,h,hb⟩;obtain⟨b6,A6,n6,c6,rfl,-,-,h⟩:=h.form;have hB:=(show Below w5.heap.size w5 w6 from jfh7);have x_6:=Lib.hid (x_5.out.below hB);have y_6:=Lib.hid (y_5.out.below hB);have u_6:=Lib.hid (u_5.out.below hB);have v_6:=Lib.hid (v_5.out.below hB);have f_6:=Lib.hid (f_5.out.below hB);have Ka_6:=Lib.hid (Ka_5.out.below hB);have Kb_6:=Lib.hid (Kb_5.out.below hB);have Kp_6:=Lib.hid (Kp_5.out.below hB);have Kq_6:=Lib.hid (Kq_5.out.below hB);have g_6:=Lib.hid (h);have HB_6:=Lib.hid (below_trans HB_5.out hB);have hs_6:w.heap.size≤w6.heap.size:=HB_6.out.size;have hz_6:w5.heap.size+0≤w6.heap.size := jrv7;clear hB hb x_5 y_5 u_5 v_5 f_5 Ka_5 Kb_5 Kp_5 Kq_5 HB_5 p50 p51 p52 p53 l5 p60 p61 p62 p63 l6;obtain⟨p70,p71,p72,p73,l7⟩:=Ka_6.out.use4;obtain⟨p80,p81,p82,p83,l8⟩:=Kb_6.out.use4)
     |(go_at_call 95;have _t:=tok2;clear _t tok2;((with_reducible refine Calls.mono (li_cmp_is (cmpQ x y) HC.out (IsInt.lim (k:=k+l) (by first | exact f_6.out | exact f_6.out.drew_ | exact f_6.out.alloc_ _ | exact(f_6.out.alloc_ _).drew_) (i_mul Bx.out Bv.out (k+l) j0i3)) (IsInt.lim (k:=k+l) (by first | exact g_6.out | exact g_6.out.drew_ | exact g_6.out.alloc_ _ | exact(g_6.out.alloc_ _).drew_) (i_mul Bu.out By.out (k+l) j0i3)) j0i3 j0i3) ?_));rintro e w7 ⟨rfl,hb⟩;have hB:=(show Below w6.heap.size w6 w7 from jfh7);have x_7:=Lib.hid (x_6.out.below hB);have y_7:=Lib.hid (y_6.out.below hB);have u_7:=Lib.hid (u_6.out.below hB);have v_7:=Lib.hid (v_6.out.below hB);have f_7:=Lib.hid (f_6.out.below hB);have g_7:=Lib.hid (g_6.out.below hB);have Ka_7:=Lib.hid (Ka_6.out.below hB);have Kb_7:=Lib.hid (Kb_6.out.below hB);have Kp_7:=Lib.hid (Kp_6.out.below hB);have Kq_7:=Lib.hid (Kq_6.out.below hB);have HB_7:=Lib.hid (below_trans HB_6.out hB);have hs_7:w.heap.size≤w7.heap.size:=HB_7.out.size;have hz_7:w6.heap.size+0≤w7.heap.size := jrv7;clear hB hb x_6 y_6 u_6 v_6 f_6 g_6 Ka_6 Kb_6 Kp_6 Kq_6 HB_6 p70 p71 p72 p73 l7 p80 p81 p82 p83 l8;obtain⟨p90,p91,p92,p93,l9⟩:=Ka_7.out.use4;obtain⟨p100,p101,p102,p103,l10⟩:=Kb_7.out.use4))
   go_wp2
   go_ret
   exact⟨rfl,HB_7.out⟩
theorem q_cmp {k l:Nat} {w:World} {v v':Value} {x y:Rat}(hx:LimQ k w v x)(hy:LimQ l w v' y)(hk:k≤40000)(hl:l≤40000)(h1:1≤k)(h1':1≤l):Calls Tryz.prog 57 #[v,v'] w fun e w'=>e = .returned (.int .i64 (cmpQ x y))∧Below w.heap.size w w':=by
 have Hx:=hx
 have Hy:=hy
 obtain⟨X,Y,hx,rfl⟩:=hx
 obtain⟨X',Y',hy,rfl⟩:=hy
 obtain⟨b,A,n,c,b',A',n',c',rfl,-,-⟩:=hx.form
 obtain⟨p,P,m,d,p',P',m',d',rfl,-,-⟩:=hy.form
 exact cmp_q0 b A n c b' A' n' c' p P m d p' P' m' d' w k l _ _ Hx Hy hk hl h1 h1'
set_option maxRecDepth 100000 in
set_option maxHeartbeats 4000000 in
theorem told_add(b:Bool)(A:Option Addr)(n c:Nat)(b':Bool)(A':Option Addr)(n' c':Nat)(p:Bool)(P:Option Addr)(m d:Nat)(p':Bool)(P':Option Addr)(m' d':Nat)(w:World)(k l:Nat)(x y:Rat)(hx:LimQ k w (.agg #[.bool b,.slice A n c,.bool b',.slice A' n' c']) x)(hy:LimQ l w (.agg #[.bool p,.slice P m d,.bool p',.slice P' m' d']) y)(hk:k≤40000)(hl:l≤40000)(h1:1≤k)(h1':1≤l) :
 Calls Tryz.prog 91 #[(.agg #[.bool b,.slice A n c,.bool b',.slice A' n' c']),(.agg #[.bool p,.slice P m d,.bool p',.slice P' m' d']),(.func (.func 87) #[] #[]),(.func (.func 88) #[] #[])] w fun e w'=>RatPost w w' e (x+y):=by
 have x_0:=Lib.hid hx
 have y_0:=Lib.hid hy
 clear hx hy
 go_enter Tryz.func91,Tryz.ntmps91
 go_upto_region 1 with fail
 generalize hW:(((w.alloc (.cells #[.bool b,.slice A n c,.bool b',.slice A' n' c'] 36)).alloc (.cells #[.bool p,.slice P m d,.bool p',.slice P' m' d'] 36)).alloc (.cells #[.bool false,.slice none 0 0,.bool false,.slice none 0 0] 36))=w1
 have x_1:=Lib.hid (hW▸(((x_0.out.alloc_ _).alloc_ _).alloc_ _))
 have y_1:=Lib.hid (hW▸(((y_0.out.alloc_ _).alloc_ _).alloc_ _))
 have Ka_1:=Lib.hid (show Blk w1 (w.heap.size) 36 #[.bool b,.slice A n c,.bool b',.slice A' n' c'] from jl14)
 have Kb_1:=Lib.hid (show Blk w1 (w.heap.size+1) 36 #[.bool p,.slice P m d,.bool p',.slice P' m' d'] from jtbf)
 have Kr_1:=Lib.hid (show Blk w1 (w.heap.size+1+1) 36 #[.bool false,.slice none 0 0,.bool false,.slice none 0 0] from jc21)
 have HB_1:=Lib.hid (show Below w.heap.size w w1 from jkqe)
 have hs_1:w.heap.size≤w1.heap.size:=HB_1.out.size
 have hz_1:w.heap.size+3≤w1.heap.size := j59e
 clear hW x_0 y_0
 go_cut [4] (fun s2 wx=>s2 = .pointer (some ⟨w.heap.size,0,none⟩)∧TCut w (w.heap.size) (w.heap.size+1) k l x y wx∧Blk wx (w.heap.size+1+1) 36 #[.bool false,.slice none 0 0,.bool false,.slice none 0 0])
 case first =>
  obtain⟨p10,p11,p12,p13,l1⟩:=Ka_1.out.use4
  obtain⟨p20,p21,p22,p23,l2⟩:=Kb_1.out.use4
  obtain⟨p30,p31,p32,p33,l3⟩:=Ka_1.out.use4
  obtain⟨p40,p41,p42,p43,l4⟩:=Kb_1.out.use4
  have tok0:True:=trivial
  have tok1:True:=trivial
  go_region_with
   (first
    |(go_at_call 92;have _t:=tok0;clear _t tok0;((with_reducible refine Calls.mono (q_taken j2om j0i3 h1) ?_));rintro e w2 ⟨v,rfl,h,hb⟩;obtain⟨b2,A2,n2,c2,d2,B2,m2,k2,rfl,h⟩:=h.form;have hB:=(show Below w1.heap.size w1 w2 from jfh7);have y_2:=Lib.hid (y_1.out.below hB);have Ka_2:=Lib.hid (Ka_1.out.below hB);have Kb_2:=Lib.hid (Kb_1.out.below hB);have Kr_2:=Lib.hid (Kr_1.out.below hB);have f_2:=Lib.hid (h);have HB_2:=Lib.hid (below_trans HB_1.out hB);have hs_2:w.heap.size≤w2.heap.size:=HB_2.out.size;have hz_2:w1.heap.size+0≤w2.heap.size := jrv7;clear hB hb x_1 y_1 Ka_1 Kb_1 Kr_1 HB_1 p30 p31 p32 p33 l3 p40 p41 p42 p43 l4;obtain⟨p50,p51,p52,p53,l5⟩:=Ka_2.out.use4;obtain⟨p60,p61,p62,p63,l6⟩:=Kb_2.out.use4)
    |(go_at_call 92;have _t:=tok1;clear _t tok1;((with_reducible refine Calls.mono (q_taken jwyo j0i3 h1') ?_));rintro e w3 ⟨v,rfl,h,hb⟩;obtain⟨b3,A3,n3,c3,d3,B3,m3,k3,rfl,h⟩:=h.form;have hB:=(show Below w2.heap.size w2 w3 from jfh7);have f_3:=Lib.hid (f_2.out.below hB);have Ka_3:=Lib.hid (Ka_2.out.below hB);have Kb_3:=Lib.hid (Kb_2.out.below hB);have Kr_3:=Lib.hid (Kr_2.out.below hB);have g_3:=Lib.hid (h);have HB_3:=Lib.hid (below_trans HB_2.out hB);have hs_3:w.heap.size≤w3.heap.size:=HB_3.out.size;have hz_3:w2.heap.size+0≤w3.heap.size := jrv7;clear hB hb y_2 f_2 Ka_2 Kb_2 Kr_2 HB_2 p50 p51 p52 p53 l5 p60 p61 p62 p63 l6;obtain⟨p70,p71,p72,p73,l7⟩:=Ka_3.out.use4;obtain⟨p80,p81,p82,p83,l8⟩:=Kb_3.out.use4;obtain⟨p90,p91,p92,p93,l9⟩:=Ka_3.out.use4;obtain⟨r90,r91,r92,r93⟩:=Ka_3.out.into4;obtain⟨p100,p101,p102,p103,l10⟩:=Kb_3.out.use4;obtain⟨r100,r101,r102,r103⟩:=Kb_3.out.into4))
  all_goals
   go_wp2_with fail
   go_meet
   exact⟨rfl,⟨⟨_,_,_,_,_,_,_,_,_,_,_,_,_,_,_,_,Ka_3.out.own4.other4 j0i3,(Kb_3.out.other4 j0i3).own4,(f_3.out.other4 Ka_3.out nu nu nu nu).other4 (Kb_3.out.other4 j0i3) nu nu nu nu,(g_3.out.other4 Ka_3.out nu nu nu nu).other4 (Kb_3.out.other4 j0i3) nu nu nu nu,Below.set4 (Below.set4 HB_3.out j0i3) j0i3⟩,(Kr_3.out.other4 j0i3).other4 j0i3⟩⟩
 case rest =>
  obtain⟨rfl,⟨b1,A1,n1,c1,d1,B1,m1,k1,b2,A2,n2,c2,d2,B2,m2,k2,q1,q2,q3,q4,q5⟩,q6⟩:=hcut
  have hs_2:w.heap.size≤wc.heap.size:=q5.size
  have Ka_2:=Lib.hid q1
  have Kb_2:=Lib.hid q2
  have f_2:=Lib.hid q3
  have g_2:=Lib.hid q4
  have HB_2:=Lib.hid q5
  have Kr_2:=Lib.hid q6
  clear q1 q2 q3 q4 q5 q6
  try clear x_1 y_1 Ka_1 Kb_1 Kr_1 HB_1 hs_1 hz_1
  obtain⟨X,Y,s1,s2,hY,ex⟩:=f_2.out.parts
  obtain⟨X',Y',s3,s4,hY',ey⟩:=g_2.out.parts
  have x_2:=Lib.hid s1
  have y_2:=Lib.hid s2
  have u_2:=Lib.hid s3
  have v_2:=Lib.hid s4
  have Bx:=Lib.hid s1.lt
  have By:=Lib.hid s2.lt
  have Bu:=Lib.hid s3.lt
  have Bv:=Lib.hid s4.lt
  have EX:=Lib.hid ex
  have EY:=Lib.hid ey
  clear s1 s2 s3 s4 ex ey f_2 g_2
  have HE2:Hid (Rat.divInt (X*Y'+X'*Y) (Y*Y')=x+y):=by show _=_;rw [EX.out,EY.out];exact(divInt_add hY hY').symm
  have hYY:0<Y*Y':=Int.mul_pos hY hY'
  clear EX EY
  by_cases hs:Short X Y∧Short X' Y'
  ·obtain⟨⟨s1,s2,s3⟩,s4,s5,s6⟩:=hs
   have m0:=mul31 (a:=X) (b:=Y') j0i3 j0i3 j0i3 j0i3
   have m1:=mul31 (a:=X') (b:=Y) j0i3 j0i3 j0i3 j0i3
   have m2:=mul31 (a:=X) (b:=X') j0i3 j0i3 j0i3 j0i3
   have m3:=mul31 (a:=Y) (b:=Y') j0i3 j0i3 j0i3 j0i3
   obtain⟨p10,p11,p12,p13,l1⟩:=Ka_2.out.use4
   obtain⟨p20,p21,p22,p23,l2⟩:=Kb_2.out.use4
   go_wp2_with fail
   refine Calls.mono (inWords_yes0 _ _ _ _ _ _ _ _ _ _ _ _ _ _ _ _ _ k l X Y X' Y' x_2.out y_2.out u_2.out v_2.out j0i3 j0i3 hY hY' s1 s2 s3 s4 s5 s6) ?_
   rintro e w3 ⟨rfl,hb⟩
   have hB:=hb
   have Kr_3:=Lib.hid (Kr_2.out.below hB)
   have HB_3:=Lib.hid (below_trans HB_2.out hB)
   have hs_3:w.heap.size≤w3.heap.size:=HB_3.out.size
   have hz_3:wc.heap.size+0≤w3.heap.size := jrv7
   clear hB hb x_2 y_2 u_2 v_2 Ka_2 Kb_2 Kr_2 HB_2 p10 p11 p12 p13 l1 p20 p21 p22 p23 l2
   go_wp2_with fail
   refine Calls.mono (add_short X Y X' Y' _ s1 s2 hY s3 s4 s5 hY' s6) ?_
   rintro e w4 ⟨rfl,hb⟩
   have hB:=bun (bun (hb))
   have Kr_4:=Lib.hid (Kr_3.out.below hB)
   have Kp_4:=Lib.hid (show Blk w4 (w3.heap.size) 105 #[.int .i64 X,.int .i64 Y] from((Blk.new _ _ jupy _ _).alloc_ _).below hb)
   have Kq_4:=Lib.hid (show Blk w4 (w3.heap.size+1) 105 #[.int .i64 X',.int .i64 Y'] from(Blk.new _ _ jupy _ _).below hb)
   have HB_4:=Lib.hid (below_trans HB_3.out hB)
   have hs_4:w.heap.size≤w4.heap.size:=HB_4.out.size
   have hz_4:w3.heap.size+2≤w4.heap.size := jrv7
   clear hB hb Kr_3 HB_3
   go_wp2_with fail
   refine Calls.mono (wlow_any (X*Y'+X'*Y) (Y*Y') _ j0i3 j0i3 hYY j0i3) ?_
   rintro e w5 ⟨v,rfl,h,hb⟩
   rw [HE2.out] at h
   obtain⟨b5,A5,n5,c5,d5,B5,m5,k5,rfl,-,-,-,h1,h2⟩:=h.form
   have hB:=hb
   have Kr_5:=Lib.hid (Kr_4.out.below hB)
   have Kp_5:=Lib.hid (Kp_4.out.below hB)
   have Kq_5:=Lib.hid (Kq_4.out.below hB)
   have z_5:=Lib.hid (h1)
   have z2_5:=Lib.hid (h2)
   have HB_5:=Lib.hid (below_trans HB_4.out hB)
   have hs_5:w.heap.size≤w5.heap.size:=HB_5.out.size
   have hz_5:w4.heap.size+0≤w5.heap.size := jrv7
   clear hB hb Kr_4 Kp_4 Kq_4 HB_4
   obtain⟨p30,p31,p32,p33,l3⟩:=Kr_5.out.use4
   obtain⟨r30,r31,r32,r33⟩:=Kr_5.out.into4
   go_wp2
   obtain⟨WF,hWF⟩ : ∃W,W=((((w5.setCell ⟨w.heap.size+1+1,0,none⟩ (.bool b5)).setCell ⟨w.heap.size+1+1,1,none⟩ (.slice A5 n5 c5)).setCell ⟨w.heap.size+1+1,2,none⟩ (.bool d5)).setCell ⟨w.heap.size+1+1,3,none⟩ (.slice B5 m5 k5)):=⟨_,rfl⟩
   rw [← hWF]
   have kq:Blk WF (w.heap.size+1+1) 36 #[.bool b5,.slice A5 n5 c5,.bool d5,.slice B5 m5 k5] := j29s
   have hBF:Below w.heap.size w WF:=by rw [hWF];exact Below.set4 (HB_5.out) jvm6
   have f1:IsInt WF (.agg #[.bool b5,.slice A5 n5 c5]) (x+y).num := jp32
   have f2:IsInt WF (.agg #[.bool d5,.slice B5 m5 k5]) ((x+y).den:Int) := j89b
   have HE:Hid (RatPost w WF (Ending.returned (.agg #[.bool b5,.slice A5 n5 c5,.bool d5,.slice B5 m5 k5])) (x+y)):=⟨_,rfl,⟨_,_,_,_,rfl,f1,f2⟩,hBF⟩
   obtain⟨e0,e1,e2,e3⟩:=kq.cells4
   clear hWF
   exact bodyPost_ret (v := .agg #[.bool b5,.slice A5 n5 c5,.bool d5,.slice B5 m5 k5]) jr01 rfl HE.out
  ·have HS:=Lib.hid hs
   clear hs
   obtain⟨p10,p11,p12,p13,l1⟩:=Ka_2.out.use4
   obtain⟨p20,p21,p22,p23,l2⟩:=Kb_2.out.use4
   go_wp2_with fail
   refine Calls.mono (inWords_no _ _ _ _ _ _ _ _ _ _ _ _ _ _ _ _ _ x_2.out y_2.out u_2.out v_2.out j0i3 j0i3 hY hY' HS.out) ?_
   rintro e w3 ⟨x3,y3,x4,y4,rfl,hb⟩
   have hB:=hb
   have x_3:=Lib.hid (x_2.out.below hB)
   have y_3:=Lib.hid (y_2.out.below hB)
   have u_3:=Lib.hid (u_2.out.below hB)
   have v_3:=Lib.hid (v_2.out.below hB)
   have Ka_3:=Lib.hid (Ka_2.out.below hB)
   have Kb_3:=Lib.hid (Kb_2.out.below hB)
   have Kr_3:=Lib.hid (Kr_2.out.below hB)
   have HB_3:=Lib.hid (below_trans HB_2.out hB)
   have hs_3:w.heap.size≤w3.heap.size:=HB_3.out.size
   have hz_3:wc.heap.size+0≤w3.heap.size := jrv7
   clear hB hb x_2 y_2 u_2 v_2 Ka_2 Kb_2 Kr_2 HB_2 p10 p11 p12 p13 l1 p20 p21 p22 p23 l2
   obtain⟨p30,p31,p32,p33,l3⟩:=Ka_3.out.use4
   obtain⟨p40,p41,p42,p43,l4⟩:=Kb_3.out.use4
   go_wp2_with fail
   refine Calls.mono (add_long _ _ _ _ _ _ _ _ _ _ _ _ _ _ _ _ _ k l X Y X' Y' ((x_3.out.alloc_ _).alloc_ _) ((y_3.out.alloc_ _).alloc_ _) ((u_3.out.alloc_ _).alloc_ _) ((v_3.out.alloc_ _).alloc_ _) j0i3 j0i3) ?_
   rintro e w4 ⟨v,rfl,h,hb⟩
   have hB:=bun (bun (hb))
   have Kr_4:=Lib.hid (Kr_3.out.below hB)
   have Kp_4:=Lib.hid (show Blk w4 (w3.heap.size) 105 #[.int .i64 x3,.int .i64 y3] from((Blk.new _ _ jupy _ _).alloc_ _).below hb)
   have Kq_4:=Lib.hid (show Blk w4 (w3.heap.size+1) 105 #[.int .i64 x4,.int .i64 y4] from(Blk.new _ _ jupy _ _).below hb)
   have t_4:=Lib.hid (h)
   have HB_4:=Lib.hid (below_trans HB_3.out hB)
   have hs_4:w.heap.size≤w4.heap.size:=HB_4.out.size
   have hz_4:w3.heap.size+2≤w4.heap.size := jrv7
   clear hB hb x_3 y_3 u_3 v_3 Ka_3 Kb_3 Kr_3 HB_3 p30 p31 p32 p33 l3 p40 p41 p42 p43 l4
   go_wp2_with fail
   refine Calls.mono (p_lowest (k:=k+l+1) ⟨_,_,t_4.out,hYY,rfl⟩ j0i3) ?_
   rintro e w5 ⟨v,rfl,h,hb⟩
   rw [HE2.out] at h
   obtain⟨b5,A5,n5,c5,d5,B5,m5,k5,rfl,-,-,-,h1,h2⟩:=h.form
   have hB:=hb
   have Kr_5:=Lib.hid (Kr_4.out.below hB)
   have Kp_5:=Lib.hid (Kp_4.out.below hB)
   have Kq_5:=Lib.hid (Kq_4.out.below hB)
   have z_5:=Lib.hid (h1)
   have z2_5:=Lib.hid (h2)
   have HB_5:=Lib.hid (below_trans HB_4.out hB)
   have hs_5:w.heap.size≤w5.heap.size:=HB_5.out.size
   have hz_5:w4.heap.size+0≤w5.heap.size := jrv7
   clear hB hb t_4 Kr_4 Kp_4 Kq_4 HB_4
   obtain⟨p50,p51,p52,p53,l5⟩:=Kr_5.out.use4
   obtain⟨r50,r51,r52,r53⟩:=Kr_5.out.into4
   go_wp2
   obtain⟨WF,hWF⟩ : ∃W,W=((((w5.setCell ⟨w.heap.size+1+1,0,none⟩ (.bool b5)).setCell ⟨w.heap.size+1+1,1,none⟩ (.slice A5 n5 c5)).setCell ⟨w.heap.size+1+1,2,none⟩ (.bool d5)).setCell ⟨w.heap.size+1+1,3,none⟩ (.slice B5 m5 k5)):=⟨_,rfl⟩
   rw [← hWF]
   have kq:Blk WF (w.heap.size+1+1) 36 #[.bool b5,.slice A5 n5 c5,.bool d5,.slice B5 m5 k5] := j29s
   have hBF:Below w.heap.size w WF:=by rw [hWF];exact Below.set4 (HB_5.out) jvm6
   have f1:IsInt WF (.agg #[.bool b5,.slice A5 n5 c5]) (x+y).num := jp32
   have f2:IsInt WF (.agg #[.bool d5,.slice B5 m5 k5]) ((x+y).den:Int) := j89b
   have HE:Hid (RatPost w WF (Ending.returned (.agg #[.bool b5,.slice A5 n5 c5,.bool d5,.slice B5 m5 k5])) (x+y)):=⟨_,rfl,⟨_,_,_,_,rfl,f1,f2⟩,hBF⟩
   obtain⟨e0,e1,e2,e3⟩:=kq.cells4
   clear hWF
   exact bodyPost_ret (v := .agg #[.bool b5,.slice A5 n5 c5,.bool d5,.slice B5 m5 k5]) jr01 rfl HE.out
set_option maxRecDepth 100000 in
set_option maxHeartbeats 4000000 in
theorem told_mul(b:Bool)(A:Option Addr)(n c:Nat)(b':Bool)(A':Option Addr)(n' c':Nat)(p:Bool)(P:Option Addr)(m d:Nat)(p':Bool)(P':Option Addr)(m' d':Nat)(w:World)(k l:Nat)(x y:Rat)(hx:LimQ k w (.agg #[.bool b,.slice A n c,.bool b',.slice A' n' c']) x)(hy:LimQ l w (.agg #[.bool p,.slice P m d,.bool p',.slice P' m' d']) y)(hk:k≤40000)(hl:l≤40000)(h1:1≤k)(h1':1≤l) :
 Calls Tryz.prog 91 #[(.agg #[.bool b,.slice A n c,.bool b',.slice A' n' c']),(.agg #[.bool p,.slice P m d,.bool p',.slice P' m' d']),(.func (.func 124) #[] #[]),(.func (.func 125) #[] #[])] w fun e w'=>RatPost w w' e (x*y):=by
 have x_0:=Lib.hid hx
 have y_0:=Lib.hid hy
 clear hx hy
 go_enter Tryz.func91,Tryz.ntmps91
 go_upto_region 1 with fail
 generalize hW:(((w.alloc (.cells #[.bool b,.slice A n c,.bool b',.slice A' n' c'] 36)).alloc (.cells #[.bool p,.slice P m d,.bool p',.slice P' m' d'] 36)).alloc (.cells #[.bool false,.slice none 0 0,.bool false,.slice none 0 0] 36))=w1
 have x_1:=Lib.hid (hW▸(((x_0.out.alloc_ _).alloc_ _).alloc_ _))
 have y_1:=Lib.hid (hW▸(((y_0.out.alloc_ _).alloc_ _).alloc_ _))
 have Ka_1:=Lib.hid (show Blk w1 (w.heap.size) 36 #[.bool b,.slice A n c,.bool b',.slice A' n' c'] from jl14)
 have Kb_1:=Lib.hid (show Blk w1 (w.heap.size+1) 36 #[.bool p,.slice P m d,.bool p',.slice P' m' d'] from jtbf)
 have Kr_1:=Lib.hid (show Blk w1 (w.heap.size+1+1) 36 #[.bool false,.slice none 0 0,.bool false,.slice none 0 0] from jc21)
 have HB_1:=Lib.hid (show Below w.heap.size w w1 from jkqe)
 have hs_1:w.heap.size≤w1.heap.size:=HB_1.out.size
 have hz_1:w.heap.size+3≤w1.heap.size := j59e
 clear hW x_0 y_0
 go_cut [4] (fun s2 wx=>s2 = .pointer (some ⟨w.heap.size,0,none⟩)∧TCut w (w.heap.size) (w.heap.size+1) k l x y wx∧Blk wx (w.heap.size+1+1) 36 #[.bool false,.slice none 0 0,.bool false,.slice none 0 0])
 case first =>
  obtain⟨p10,p11,p12,p13,l1⟩:=Ka_1.out.use4
  obtain⟨p20,p21,p22,p23,l2⟩:=Kb_1.out.use4
  obtain⟨p30,p31,p32,p33,l3⟩:=Ka_1.out.use4
  obtain⟨p40,p41,p42,p43,l4⟩:=Kb_1.out.use4
  have tok0:True:=trivial
  have tok1:True:=trivial
  go_region_with
   (first
    |(go_at_call 92;have _t:=tok0;clear _t tok0;((with_reducible refine Calls.mono (q_taken j2om j0i3 h1) ?_));rintro e w2 ⟨v,rfl,h,hb⟩;obtain⟨b2,A2,n2,c2,d2,B2,m2,k2,rfl,h⟩:=h.form;have hB:=(show Below w1.heap.size w1 w2 from jfh7);have y_2:=Lib.hid (y_1.out.below hB);have Ka_2:=Lib.hid (Ka_1.out.below hB);have Kb_2:=Lib.hid (Kb_1.out.below hB);have Kr_2:=Lib.hid (Kr_1.out.below hB);have f_2:=Lib.hid (h);have HB_2:=Lib.hid (below_trans HB_1.out hB);have hs_2:w.heap.size≤w2.heap.size:=HB_2.out.size;have hz_2:w1.heap.size+0≤w2.heap.size := jrv7;clear hB hb x_1 y_1 Ka_1 Kb_1 Kr_1 HB_1 p30 p31 p32 p33 l3 p40 p41 p42 p43 l4;obtain⟨p50,p51,p52,p53,l5⟩:=Ka_2.out.use4;obtain⟨p60,p61,p62,p63,l6⟩:=Kb_2.out.use4)
    |(go_at_call 92;have _t:=tok1;clear _t tok1;((with_reducible refine Calls.mono (q_taken jwyo j0i3 h1') ?_));rintro e w3 ⟨v,rfl,h,hb⟩;obtain⟨b3,A3,n3,c3,d3,B3,m3,k3,rfl,h⟩:=h.form;have hB:=(show Below w2.heap.size w2 w3 from jfh7);have f_3:=Lib.hid (f_2.out.below hB);have Ka_3:=Lib.hid (Ka_2.out.below hB);have Kb_3:=Lib.hid (Kb_2.out.below hB);have Kr_3:=Lib.hid (Kr_2.out.below hB);have g_3:=Lib.hid (h);have HB_3:=Lib.hid (below_trans HB_2.out hB);have hs_3:w.heap.size≤w3.heap.size:=HB_3.out.size;have hz_3:w2.heap.size+0≤w3.heap.size := jrv7;clear hB hb y_2 f_2 Ka_2 Kb_2 Kr_2 HB_2 p50 p51 p52 p53 l5 p60 p61 p62 p63 l6;obtain⟨p70,p71,p72,p73,l7⟩:=Ka_3.out.use4;obtain⟨p80,p81,p82,p83,l8⟩:=Kb_3.out.use4;obtain⟨p90,p91,p92,p93,l9⟩:=Ka_3.out.use4;obtain⟨r90,r91,r92,r93⟩:=Ka_3.out.into4;obtain⟨p100,p101,p102,p103,l10⟩:=Kb_3.out.use4;obtain⟨r100,r101,r102,r103⟩:=Kb_3.out.into4))
  all_goals
   go_wp2_with fail
   go_meet
   exact⟨rfl,⟨⟨_,_,_,_,_,_,_,_,_,_,_,_,_,_,_,_,Ka_3.out.own4.other4 j0i3,(Kb_3.out.other4 j0i3).own4,(f_3.out.other4 Ka_3.out nu nu nu nu).other4 (Kb_3.out.other4 j0i3) nu nu nu nu,(g_3.out.other4 Ka_3.out nu nu nu nu).other4 (Kb_3.out.other4 j0i3) nu nu nu nu,Below.set4 (Below.set4 HB_3.out j0i3) j0i3⟩,(Kr_3.out.other4 j0i3).other4 j0i3⟩⟩
 case rest =>
  obtain⟨rfl,⟨b1,A1,n1,c1,d1,B1,m1,k1,b2,A2,n2,c2,d2,B2,m2,k2,q1,q2,q3,q4,q5⟩,q6⟩:=hcut
  have hs_2:w.heap.size≤wc.heap.size:=q5.size
  have Ka_2:=Lib.hid q1
  have Kb_2:=Lib.hid q2
  have f_2:=Lib.hid q3
  have g_2:=Lib.hid q4
  have HB_2:=Lib.hid q5
  have Kr_2:=Lib.hid q6
  clear q1 q2 q3 q4 q5 q6
  try clear x_1 y_1 Ka_1 Kb_1 Kr_1 HB_1 hs_1 hz_1
  obtain⟨X,Y,s1,s2,hY,ex⟩:=f_2.out.parts
  obtain⟨X',Y',s3,s4,hY',ey⟩:=g_2.out.parts
  have x_2:=Lib.hid s1
  have y_2:=Lib.hid s2
  have u_2:=Lib.hid s3
  have v_2:=Lib.hid s4
  have Bx:=Lib.hid s1.lt
  have By:=Lib.hid s2.lt
  have Bu:=Lib.hid s3.lt
  have Bv:=Lib.hid s4.lt
  have EX:=Lib.hid ex
  have EY:=Lib.hid ey
  clear s1 s2 s3 s4 ex ey f_2 g_2
  have HE2:Hid (Rat.divInt (X*X') (Y*Y')=x*y):=by show _=_;rw [EX.out,EY.out];exact divInt_mul.symm
  have hYY:0<Y*Y':=Int.mul_pos hY hY'
  clear EX EY
  by_cases hs:Short X Y∧Short X' Y'
  ·obtain⟨⟨s1,s2,s3⟩,s4,s5,s6⟩:=hs
   have m0:=mul31 (a:=X) (b:=Y') j0i3 j0i3 j0i3 j0i3
   have m1:=mul31 (a:=X') (b:=Y) j0i3 j0i3 j0i3 j0i3
   have m2:=mul31 (a:=X) (b:=X') j0i3 j0i3 j0i3 j0i3
   have m3:=mul31 (a:=Y) (b:=Y') j0i3 j0i3 j0i3 j0i3
   obtain⟨p10,p11,p12,p13,l1⟩:=Ka_2.out.use4
   obtain⟨p20,p21,p22,p23,l2⟩:=Kb_2.out.use4
   go_wp2_with fail
   refine Calls.mono (inWords_yes0 _ _ _ _ _ _ _ _ _ _ _ _ _ _ _ _ _ k l X Y X' Y' x_2.out y_2.out u_2.out v_2.out j0i3 j0i3 hY hY' s1 s2 s3 s4 s5 s6) ?_
   rintro e w3 ⟨rfl,hb⟩
   have hB:=hb
   have Kr_3:=Lib.hid (Kr_2.out.below hB)
   have HB_3:=Lib.hid (below_trans HB_2.out hB)
   have hs_3:w.heap.size≤w3.heap.size:=HB_3.out.size
   have hz_3:wc.heap.size+0≤w3.heap.size := jrv7
   clear hB hb x_2 y_2 u_2 v_2 Ka_2 Kb_2 Kr_2 HB_2 p10 p11 p12 p13 l1 p20 p21 p22 p23 l2
   go_wp2_with fail
   refine Calls.mono (mul_short X Y X' Y' _ s1 s2 hY s3 s4 s5 hY' s6) ?_
   rintro e w4 ⟨rfl,hb⟩
   have hB:=bun (bun (hb))
   have Kr_4:=Lib.hid (Kr_3.out.below hB)
   have Kp_4:=Lib.hid (show Blk w4 (w3.heap.size) 105 #[.int .i64 X,.int .i64 Y] from((Blk.new _ _ jupy _ _).alloc_ _).below hb)
   have Kq_4:=Lib.hid (show Blk w4 (w3.heap.size+1) 105 #[.int .i64 X',.int .i64 Y'] from(Blk.new _ _ jupy _ _).below hb)
   have HB_4:=Lib.hid (below_trans HB_3.out hB)
   have hs_4:w.heap.size≤w4.heap.size:=HB_4.out.size
   have hz_4:w3.heap.size+2≤w4.heap.size := jrv7
   clear hB hb Kr_3 HB_3
   go_wp2_with fail
   refine Calls.mono (wlow_any (X*X') (Y*Y') _ j0i3 j0i3 hYY j0i3) ?_
   rintro e w5 ⟨v,rfl,h,hb⟩
   rw [HE2.out] at h
   obtain⟨b5,A5,n5,c5,d5,B5,m5,k5,rfl,-,-,-,h1,h2⟩:=h.form
   have hB:=hb
   have Kr_5:=Lib.hid (Kr_4.out.below hB)
   have Kp_5:=Lib.hid (Kp_4.out.below hB)
   have Kq_5:=Lib.hid (Kq_4.out.below hB)
   have z_5:=Lib.hid (h1)
   have z2_5:=Lib.hid (h2)
   have HB_5:=Lib.hid (below_trans HB_4.out hB)
   have hs_5:w.heap.size≤w5.heap.size:=HB_5.out.size
   have hz_5:w4.heap.size+0≤w5.heap.size := jrv7
   clear hB hb Kr_4 Kp_4 Kq_4 HB_4
   obtain⟨p30,p31,p32,p33,l3⟩:=Kr_5.out.use4
   obtain⟨r30,r31,r32,r33⟩:=Kr_5.out.into4
   go_wp2
   obtain⟨WF,hWF⟩ : ∃W,W=((((w5.setCell ⟨w.heap.size+1+1,0,none⟩ (.bool b5)).setCell ⟨w.heap.size+1+1,1,none⟩ (.slice A5 n5 c5)).setCell ⟨w.heap.size+1+1,2,none⟩ (.bool d5)).setCell ⟨w.heap.size+1+1,3,none⟩ (.slice B5 m5 k5)):=⟨_,rfl⟩
   rw [← hWF]
   have kq:Blk WF (w.heap.size+1+1) 36 #[.bool b5,.slice A5 n5 c5,.bool d5,.slice B5 m5 k5] := j29s
   have hBF:Below w.heap.size w WF:=by rw [hWF];exact Below.set4 (HB_5.out) jvm6
   have f1:IsInt WF (.agg #[.bool b5,.slice A5 n5 c5]) (x*y).num := jp32
   have f2:IsInt WF (.agg #[.bool d5,.slice B5 m5 k5]) ((x*y).den:Int) := j89b
   have HE:Hid (RatPost w WF (Ending.returned (.agg #[.bool b5,.slice A5 n5 c5,.bool d5,.slice B5 m5 k5])) (x*y)):=⟨_,rfl,⟨_,_,_,_,rfl,f1,f2⟩,hBF⟩
   obtain⟨e0,e1,e2,e3⟩:=kq.cells4
   clear hWF
   exact bodyPost_ret (v := .agg #[.bool b5,.slice A5 n5 c5,.bool d5,.slice B5 m5 k5]) jr01 rfl HE.out
  ·have HS:=Lib.hid hs
   clear hs
   obtain⟨p10,p11,p12,p13,l1⟩:=Ka_2.out.use4
   obtain⟨p20,p21,p22,p23,l2⟩:=Kb_2.out.use4
   go_wp2_with fail
   refine Calls.mono (inWords_no _ _ _ _ _ _ _ _ _ _ _ _ _ _ _ _ _ x_2.out y_2.out u_2.out v_2.out j0i3 j0i3 hY hY' HS.out) ?_
   rintro e w3 ⟨x3,y3,x4,y4,rfl,hb⟩
   have hB:=hb
   have x_3:=Lib.hid (x_2.out.below hB)
   have y_3:=Lib.hid (y_2.out.below hB)
   have u_3:=Lib.hid (u_2.out.below hB)
   have v_3:=Lib.hid (v_2.out.below hB)
   have Ka_3:=Lib.hid (Ka_2.out.below hB)
   have Kb_3:=Lib.hid (Kb_2.out.below hB)
   have Kr_3:=Lib.hid (Kr_2.out.below hB)
   have HB_3:=Lib.hid (below_trans HB_2.out hB)
   have hs_3:w.heap.size≤w3.heap.size:=HB_3.out.size
   have hz_3:wc.heap.size+0≤w3.heap.size := jrv7
   clear hB hb x_2 y_2 u_2 v_2 Ka_2 Kb_2 Kr_2 HB_2 p10 p11 p12 p13 l1 p20 p21 p22 p23 l2
   obtain⟨p30,p31,p32,p33,l3⟩:=Ka_3.out.use4
   obtain⟨p40,p41,p42,p43,l4⟩:=Kb_3.out.use4
   go_wp2_with fail
   refine Calls.mono (mul_long _ _ _ _ _ _ _ _ _ _ _ _ _ _ _ _ _ k l X Y X' Y' ((x_3.out.alloc_ _).alloc_ _) ((y_3.out.alloc_ _).alloc_ _) ((u_3.out.alloc_ _).alloc_ _) ((v_3.out.alloc_ _).alloc_ _) j0i3 j0i3) ?_
   rintro e w4 ⟨v,rfl,h,hb⟩
   have hB:=bun (bun (hb))
   have Kr_4:=Lib.hid (Kr_3.out.below hB)
   have Kp_4:=Lib.hid (show Blk w4 (w3.heap.size) 105 #[.int .i64 x3,.int .i64 y3] from((Blk.new _ _ jupy _ _).alloc_ _).below hb)
   have Kq_4:=Lib.hid (show Blk w4 (w3.heap.size+1) 105 #[.int .i64 x4,.int .i64 y4] from(Blk.new _ _ jupy _ _).below hb)
   have t_4:=Lib.hid (h)
   have HB_4:=Lib.hid (below_trans HB_3.out hB)
   have hs_4:w.heap.size≤w4.heap.size:=HB_4.out.size
   have hz_4:w3.heap.size+2≤w4.heap.size := jrv7
   clear hB hb x_3 y_3 u_3 v_3 Ka_3 Kb_3 Kr_3 HB_3 p30 p31 p32 p33 l3 p40 p41 p42 p43 l4
   go_wp2_with fail
   refine Calls.mono (p_lowest (k:=k+l) ⟨_,_,t_4.out,hYY,rfl⟩ j0i3) ?_
   rintro e w5 ⟨v,rfl,h,hb⟩
   rw [HE2.out] at h
   obtain⟨b5,A5,n5,c5,d5,B5,m5,k5,rfl,-,-,-,h1,h2⟩:=h.form
   have hB:=hb
   have Kr_5:=Lib.hid (Kr_4.out.below hB)
   have Kp_5:=Lib.hid (Kp_4.out.below hB)
   have Kq_5:=Lib.hid (Kq_4.out.below hB)
   have z_5:=Lib.hid (h1)
   have z2_5:=Lib.hid (h2)
   have HB_5:=Lib.hid (below_trans HB_4.out hB)
   have hs_5:w.heap.size≤w5.heap.size:=HB_5.out.size
   have hz_5:w4.heap.size+0≤w5.heap.size := jrv7
   clear hB hb t_4 Kr_4 Kp_4 Kq_4 HB_4
   obtain⟨p50,p51,p52,p53,l5⟩:=Kr_5.out.use4
   obtain⟨r50,r51,r52,r53⟩:=Kr_5.out.into4
   go_wp2
   obtain⟨WF,hWF⟩ : ∃W,W=((((w5.setCell ⟨w.heap.size+1+1,0,none⟩ (.bool b5)).setCell ⟨w.heap.size+1+1,1,none⟩ (.slice A5 n5 c5)).setCell ⟨w.heap.size+1+1,2,none⟩ (.bool d5)).setCell ⟨w.heap.size+1+1,3,none⟩ (.slice B5 m5 k5)):=⟨_,rfl⟩
   rw [← hWF]
   have kq:Blk WF (w.heap.size+1+1) 36 #[.bool b5,.slice A5 n5 c5,.bool d5,.slice B5 m5 k5] := j29s
   have hBF:Below w.heap.size w WF:=by rw [hWF];exact Below.set4 (HB_5.out) jvm6
   have f1:IsInt WF (.agg #[.bool b5,.slice A5 n5 c5]) (x*y).num := jp32
   have f2:IsInt WF (.agg #[.bool d5,.slice B5 m5 k5]) ((x*y).den:Int) := j89b
   have HE:Hid (RatPost w WF (Ending.returned (.agg #[.bool b5,.slice A5 n5 c5,.bool d5,.slice B5 m5 k5])) (x*y)):=⟨_,rfl,⟨_,_,_,_,rfl,f1,f2⟩,hBF⟩
   obtain⟨e0,e1,e2,e3⟩:=kq.cells4
   clear hWF
   exact bodyPost_ret (v := .agg #[.bool b5,.slice A5 n5 c5,.bool d5,.slice B5 m5 k5]) jr01 rfl HE.out
end Go.Proofs.YtgilnmhejjpleaaGreat
