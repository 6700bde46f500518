/- Contracts of the document's own fractions: Cmp, Add, Sub, Mul, Div, Of, Same. -/
import Derived.Test.YtgilnmhejjpleaaGreatPRk
namespace Go.Proofs.YtgilnmhejjpleaaGreat
open Go.RowKit
attribute [local go_sem ↓] Go.wp_at_zero Go.wp_at_succ
set_option linter.unusedVariables false
theorem j11e {P:Prop}(h:P:=by rw [← hW]; exact (((Kb_1.out.alloc_ _).alloc_ _).alloc_ _)):P:=h
theorem j4c2 {P:Prop}(h:P:=by rw [← hW]; exact (((Kr_1.out.alloc_ _).alloc_ _).alloc_ _)):P:=h
theorem j8qe {P:Prop}(h:P:=by first | exact f_2.out | exact f_2.out.drew_ | exact f_2.out.alloc_ _ | exact (f_2.out.alloc_ _).drew_):P:=h
theorem j92p {P:Prop}(h:P:=by rw [← hW]; exact halloc (halloc (halloc (HB_1.out)))):P:=h
theorem ja6f {P:Prop}(h:P:=by first | exact e_2.out | exact e_2.out.drew_ | exact e_2.out.alloc_ _ | exact (e_2.out.alloc_ _).drew_):P:=h
theorem jbg6 {P:Prop}(h:P:=by first | exact s_3.out | exact s_3.out.drew_ | exact s_3.out.alloc_ _ | exact (s_3.out.alloc_ _).drew_):P:=h
theorem jctk {P:Prop}(h:P:=by rw [hWF]; exact z2_4.out.other4 Kr_4.out nu nu nu nu):P:=h
theorem jnfe {P:Prop}(h:P:=by rw [hWF]; exact z_4.out.other4 Kr_4.out nu nu nu nu):P:=h
theorem juqw {P:Prop}(h:P:=by rw [← hW]; exact (((Ka_1.out.alloc_ _).alloc_ _).alloc_ _)):P:=h
theorem cross_cmp(x y:Rat):cmpI (x.num*y.den) (y.num*x.den)=cmpQ x y:=by
 have:=cmp_parts (X:=x.num) (Y:=x.den) (X':=y.num) (Y':=y.den) (den_pos' x) (den_pos' y)
 rw [Rat.num_divInt_den,Rat.num_divInt_den] at this
 exact this
theorem cross_add(x y:Rat):Rat.divInt (x.num*y.den+y.num*x.den) ((x.den:Int)*y.den)=x+y:=by
 rw [← divInt_add (den_pos' x) (den_pos' y),Rat.num_divInt_den,Rat.num_divInt_den]
theorem cross_mul(x y:Rat):Rat.divInt (x.num*y.num) ((x.den:Int)*y.den)=x*y:=by
 rw [← divInt_mul,Rat.num_divInt_den,Rat.num_divInt_den]
theorem limQ_mk {k:Nat} {w:World} {b b':Bool} {m m':Value} {X Y:Int} {q:Rat}(h1:LimI k w (.agg #[.bool b,m]) X)(h2:LimI k w (.agg #[.bool b',m']) Y)(hY:0<Y)(hq:Rat.divInt X Y=q):LimQ k w (.agg #[.bool b,m,.bool b',m']) q :=
 ⟨X,Y,limR_mk h1 h2,by unfold ratOf;rw [if_pos hY,hq]⟩
theorem xy_bd {k l:Nat} {x y:Rat}(hx:BQ k x)(hy:BQ l y):(x.num*y.den).natAbs<4294967296 ^ (k+l)∧(y.num*x.den).natAbs<4294967296 ^ (k+l)∧((x.den:Int)*y.den).natAbs<4294967296 ^ (k+l+1)∧0<(x.den:Int)*y.den :=
 ⟨i_mul hx.1 (Y:=(y.den:Int)) hy.2 (k+l) j0i3,i_mul hy.1 (Y:=(x.den:Int)) hx.2 (k+l) j0i3,i_mul (X:=(x.den:Int)) (Y:=(y.den:Int)) hx.2 hy.2 (k+l+1) j0i3,Int.mul_pos (den_pos' x) (den_pos' y)⟩
set_option maxRecDepth 100000 in
set_option maxHeartbeats 2000000 in
theorem rcmp_q0(b:Bool)(A:Option Addr)(n c:Nat)(b':Bool)(A':Option Addr)(n' c':Nat)(p:Bool)(P:Option Addr)(m d:Nat)(p':Bool)(P':Option Addr)(m' d':Nat)(w:World)(k l:Nat)(x y:Rat)(hx:LimQ k w (.agg #[.bool b,.slice A n c,.bool b',.slice A' n' c']) x)(hy:LimQ l w (.agg #[.bool p,.slice P m d,.bool p',.slice P' m' d']) y)(hk:k≤20000)(hl:l≤20000)(h1:1≤k)(h1':1≤l) :
 Calls Tryz.prog 28 #[(.agg #[.bool b,.slice A n c,.bool b',.slice A' n' c']),(.agg #[.bool p,.slice P m d,.bool p',.slice P' m' d'])] w fun e w'=>e = .returned (.int .i64 (cmpQ x y))∧Below w.heap.size w w':=by
 obtain⟨bd1,bd2,bd3,bd4⟩:=xy_bd (hx.bq h1) (hy.bq h1')
 have BD1:=Lib.hid bd1
 have BD2:=Lib.hid bd2
 have BD3:=Lib.hid bd3
 have BD4:=Lib.hid bd4
 have x_0:=Lib.hid hx
 have y_0:=Lib.hid hy
 clear hx hy bd1 bd2 bd3 bd4
 go_enter Tryz.func28,Tryz.ntmps28
 go_wp2_with fail
 refine Calls.mono (rcross ((x_0.out.alloc_ _).alloc_ _) ((y_0.out.alloc_ _).alloc_ _) j0i3 j0i3 h1 h1') ?_
 rintro e w1 ⟨v1,v2,v3,rfl,hx,hy,hz,hb⟩
 obtain⟨b1x,A1x,n1x,c1x,rfl,-,-,hx⟩:=hx.form
 obtain⟨b1y,A1y,n1y,c1y,rfl,-,-,hy⟩:=hy.form
 obtain⟨b1z,A1z,n1z,c1z,rfl,-,-,hz⟩:=hz.form
 have hB:=bun (bun (hb))
 have Ka_1:=Lib.hid (show Blk w1 (w.heap.size) 36 #[.bool b,.slice A n c,.bool b',.slice A' n' c'] from((Blk.new _ _ jupy _ _).alloc_ _).below hb)
 have Kb_1:=Lib.hid (show Blk w1 (w.heap.size+1) 36 #[.bool p,.slice P m d,.bool p',.slice P' m' d'] from(Blk.new _ _ jupy _ _).below hb)
 have e_1:=Lib.hid (hx)
 have f_1:=Lib.hid (hy)
 have g_1:=Lib.hid (hz)
 have HB_1:=Lib.hid (hB)
 have hs_1:w.heap.size≤w1.heap.size:=HB_1.out.size
 have hz_1:w.heap.size+2≤w1.heap.size := jrv7
 clear hB hb x_0 y_0
 go_wp2_with fail
 refine Calls.mono (li_rcmp_is (cmpQ x y) (cross_cmp x y) ((((e_1.out.alloc_ _).alloc_ _).alloc_ _).lim BD1.out) ((((f_1.out.alloc_ _).alloc_ _).alloc_ _).lim BD2.out) j0i3 j0i3) ?_
 rintro e w2 ⟨rfl,hb⟩
 have hB:=bun (bun (bun (hb)))
 have e_2:=Lib.hid (e_1.out.below hB)
 have f_2:=Lib.hid (f_1.out.below hB)
 have g_2:=Lib.hid (g_1.out.below hB)
 have Ka_2:=Lib.hid (Ka_1.out.below hB)
 have Kb_2:=Lib.hid (Kb_1.out.below hB)
 have Kc1_2:=Lib.hid (show Blk w2 (w1.heap.size) 34 #[.bool b1x,.slice A1x n1x c1x] from(((Blk.new _ _ jupy _ _).alloc_ _).alloc_ _).below hb)
 have Kc2_2:=Lib.hid (show Blk w2 (w1.heap.size+1) 34 #[.bool b1y,.slice A1y n1y c1y] from((Blk.new _ _ jupy _ _).alloc_ _).below hb)
 have Kc3_2:=Lib.hid (show Blk w2 (w1.heap.size+1+1) 34 #[.bool b1z,.slice A1z n1z c1z] from(Blk.new _ _ jupy _ _).below hb)
 have HB_2:=Lib.hid (below_trans HB_1.out hB)
 have hs_2:w.heap.size≤w2.heap.size:=HB_2.out.size
 have hz_2:w1.heap.size+3≤w2.heap.size := jrv7
 clear hB hb e_1 f_1 g_1 Ka_1 Kb_1 HB_1
 go_wp2
 go_ret
 exact⟨rfl,HB_2.out⟩
theorem rcmp_q {k l:Nat} {w:World} {v v':Value} {x y:Rat}(hx:LimQ k w v x)(hy:LimQ l w v' y)(hk:k≤20000)(hl:l≤20000)(h1:1≤k)(h1':1≤l):Calls Tryz.prog 28 #[v,v'] w fun e w'=>e = .returned (.int .i64 (cmpQ x y))∧Below w.heap.size w w':=by
 have Hx:=hx
 have Hy:=hy
 obtain⟨X,Y,hx,rfl⟩:=hx
 obtain⟨X',Y',hy,rfl⟩:=hy
 obtain⟨b,A,n,c,b',A',n',c',rfl,-,-⟩:=hx.form
 obtain⟨p,P,m,d,p',P',m',d',rfl,-,-⟩:=hy.form
 exact rcmp_q0 b A n c b' A' n' c' p P m d p' P' m' d' w k l _ _ Hx Hy hk hl h1 h1'
set_option maxRecDepth 100000 in
set_option maxHeartbeats 4000000 in
theorem radd_q0(b:Bool)(A:Option Addr)(n c:Nat)(b':Bool)(A':Option Addr)(n' c':Nat)(p:Bool)(P:Option Addr)(m d:Nat)(p':Bool)(P':Option Addr)(m' d':Nat)(w:World)(k l:Nat)(x y:Rat)(hx:LimQ k w (.agg #[.bool b,.slice A n c,.bool b',.slice A' n' c']) x)(hy:LimQ l w (.agg #[.bool p,.slice P m d,.bool p',.slice P' m' d']) y)(hk:k≤20000)(hl:l≤20000)(h1:1≤k)(h1':1≤l) :
 Calls Tryz.prog 31 #[(.agg #[.bool b,.slice A n c,.bool b',.slice A' n' c']),(.agg #[.bool p,.slice P m d,.bool p',.slice P' m' d'])] w fun e w'=>RatPost w w' e (x+y):=by
 obtain⟨bd1,bd2,bd3,bd4⟩:=xy_bd (hx.bq h1) (hy.bq h1')
 have BD1:=Lib.hid bd1
 have BD2:=Lib.hid bd2
 have BD3:=Lib.hid bd3
 have BD4:=Lib.hid bd4
 have x_0:=Lib.hid hx
 have y_0:=Lib.hid hy
 clear hx hy bd1 bd2 bd3 bd4
 have BS:Hid ((x.num*y.den+y.num*x.den).natAbs<4294967296 ^ (k+l+1)):=i_add BD1.out BD2.out (k+l+1) j0i3 j0i3
 go_enter Tryz.func31,Tryz.ntmps31
 go_wp2_with fail
 refine Calls.mono (rcross (((x_0.out.alloc_ _).alloc_ _).alloc_ _) (((y_0.out.alloc_ _).alloc_ _).alloc_ _) j0i3 j0i3 h1 h1') ?_
 rintro e w1 ⟨v1,v2,v3,rfl,hx,hy,hz,hb⟩
 obtain⟨b1x,A1x,n1x,c1x,rfl,-,-,hx⟩:=hx.form
 obtain⟨b1y,A1y,n1y,c1y,rfl,-,-,hy⟩:=hy.form
 obtain⟨b1z,A1z,n1z,c1z,rfl,-,-,hz⟩:=hz.form
 have hB:=bun (bun (bun (hb)))
 have Ka_1:=Lib.hid (show Blk w1 (w.heap.size) 36 #[.bool b,.slice A n c,.bool b',.slice A' n' c'] from(((Blk.new _ _ jupy _ _).alloc_ _).alloc_ _).below hb)
 have Kb_1:=Lib.hid (show Blk w1 (w.heap.size+1) 36 #[.bool p,.slice P m d,.bool p',.slice P' m' d'] from((Blk.new _ _ jupy _ _).alloc_ _).below hb)
 have Kr_1:=Lib.hid (show Blk w1 (w.heap.size+1+1) 36 #[.bool false,.slice none 0 0,.bool false,.slice none 0 0] from(Blk.new _ _ jupy _ _).below hb)
 have e_1:=Lib.hid (hx)
 have f_1:=Lib.hid (hy)
 have g_1:=Lib.hid (hz)
 have HB_1:=Lib.hid (hB)
 have hs_1:w.heap.size≤w1.heap.size:=HB_1.out.size
 have hz_1:w.heap.size+3≤w1.heap.size := jrv7
 clear hB hb x_0 y_0
 go_wp2
 generalize hW:(((w1.alloc (.cells #[.bool b1x,.slice A1x n1x c1x] 34)).alloc (.cells #[.bool b1y,.slice A1y n1y c1y] 34)).alloc (.cells #[.bool b1z,.slice A1z n1z c1z] 34))=w2
 have e_2:=Lib.hid (hW▸(((e_1.out.alloc_ _).alloc_ _).alloc_ _))
 have f_2:=Lib.hid (hW▸(((f_1.out.alloc_ _).alloc_ _).alloc_ _))
 have g_2:=Lib.hid (hW▸(((g_1.out.alloc_ _).alloc_ _).alloc_ _))
 have Ka_2:=Lib.hid (show Blk w2 (w.heap.size) 36 #[.bool b,.slice A n c,.bool b',.slice A' n' c'] from juqw)
 have Kb_2:=Lib.hid (show Blk w2 (w.heap.size+1) 36 #[.bool p,.slice P m d,.bool p',.slice P' m' d'] from j11e)
 have Kr_2:=Lib.hid (show Blk w2 (w.heap.size+1+1) 36 #[.bool false,.slice none 0 0,.bool false,.slice none 0 0] from j4c2)
 have Kc1_2:=Lib.hid (show Blk w2 (w1.heap.size) 34 #[.bool b1x,.slice A1x n1x c1x] from jl14)
 have Kc2_2:=Lib.hid (show Blk w2 (w1.heap.size+1) 34 #[.bool b1y,.slice A1y n1y c1y] from jtbf)
 have Kc3_2:=Lib.hid (show Blk w2 (w1.heap.size+1+1) 34 #[.bool b1z,.slice A1z n1z c1z] from jc21)
 have HB_2:=Lib.hid (show Below w.heap.size w w2 from j92p)
 have hs_2:w.heap.size≤w2.heap.size:=HB_2.out.size
 have hz_2:w1.heap.size+3≤w2.heap.size := j59e
 clear hW e_1 f_1 g_1 Ka_1 Kb_1 Kr_1 HB_1
 obtain⟨p10,p11,l1⟩:=Kc1_2.out.use2
 obtain⟨p20,p21,l2⟩:=Kc2_2.out.use2
 obtain⟨p30,p31,l3⟩:=Kc3_2.out.use2
 have tok0:True:=trivial
 have tok1:True:=trivial
 go_region_held3 (fun w'=>w'.cell? ⟨w1.heap.size,0,none⟩=some (.bool b1x)∧w'.cell? ⟨w1.heap.size,1,none⟩=some (.slice A1x n1x c1x)∧w'.cell? ⟨w1.heap.size+1,0,none⟩=some (.bool b1y)∧w'.cell? ⟨w1.heap.size+1,1,none⟩=some (.slice A1y n1y c1y)∧w'.cell? ⟨w1.heap.size+1+1,0,none⟩=some (.bool b1z)∧w'.cell? ⟨w1.heap.size+1+1,1,none⟩=some (.slice A1z n1z c1z)) (first | (refine⟨?_,?_,?_,?_,?_,?_⟩ <;> (first | with_reducible assumption | ((with_reducible refine Eq.trans (cell_drew _ _) ?_);with_reducible assumption) | ((rw [cell_far4 _ _ _ _ _ _ _ _ j0i3]);with_reducible assumption) | ((repeat rw [cell_far2 _ _ _ _ _ _ j0i3]);with_reducible assumption) | go_keep)) | trivial | go_keep)
  (first
   |(go_at_call 65;have _t:=tok0;clear _t tok0;((with_reducible refine Calls.mono (li_radd (IsInt.lim (k:=k+l) ja6f BD1.out) (IsInt.lim (k:=k+l) j8qe BD2.out) j0i3 j0i3) ?_));rintro e w3 ⟨v,rfl,h,hb⟩;obtain⟨b3,A3,n3,c3,rfl,-,-,h⟩:=h.form;have hB:=(show Below w2.heap.size w2 w3 from jfh7);have g_3:=Lib.hid (g_2.out.below hB);have Ka_3:=Lib.hid (Ka_2.out.below hB);have Kb_3:=Lib.hid (Kb_2.out.below hB);have Kr_3:=Lib.hid (Kr_2.out.below hB);have Kc1_3:=Lib.hid (Kc1_2.out.below hB);have Kc2_3:=Lib.hid (Kc2_2.out.below hB);have Kc3_3:=Lib.hid (Kc3_2.out.below hB);have s_3:=Lib.hid (h);have HB_3:=Lib.hid (below_trans HB_2.out hB);have hs_3:w.heap.size≤w3.heap.size:=HB_3.out.size;have hz_3:w2.heap.size+0≤w3.heap.size := jrv7;clear hB hb e_2 f_2 g_2 Ka_2 Kb_2 Kr_2 Kc1_2 Kc2_2 Kc3_2 HB_2 p10 p11 l1 p20 p21 l2 p30 p31 l3;obtain⟨p40,p41,l4⟩:=Kc1_3.out.use2;obtain⟨p50,p51,l5⟩:=Kc2_3.out.use2;obtain⟨p60,p61,l6⟩:=Kc3_3.out.use2)
   |(go_at_call 43;have _t:=tok1;clear _t tok1;((with_reducible refine Calls.mono (r_plain (k:=k+l+1) (limQ_mk (IsInt.lim (k:=k+l+1) jbg6 BS.out) (IsInt.lim (k:=k+l+1) j845 BD3.out) BD4.out (cross_add x y)) j0i3) ?_));rintro e w4 ⟨v,rfl,h,hb⟩;obtain⟨b4,A4,n4,c4,d4,B4,m4,k4,rfl,-,-,-,h1,h2⟩:=h.form;have hB:=(show Below w3.heap.size w3 w4 from jfh7);have Ka_4:=Lib.hid (Ka_3.out.below hB);have Kb_4:=Lib.hid (Kb_3.out.below hB);have Kr_4:=Lib.hid (Kr_3.out.below hB);have Kc1_4:=Lib.hid (Kc1_3.out.below hB);have Kc2_4:=Lib.hid (Kc2_3.out.below hB);have Kc3_4:=Lib.hid (Kc3_3.out.below hB);have z_4:=Lib.hid (h1);have z2_4:=Lib.hid (h2);have HB_4:=Lib.hid (below_trans HB_3.out hB);have hs_4:w.heap.size≤w4.heap.size:=HB_4.out.size;have hz_4:w3.heap.size+0≤w4.heap.size := jrv7;clear hB hb g_3 s_3 Ka_3 Kb_3 Kr_3 Kc1_3 Kc2_3 Kc3_3 HB_3 p40 p41 l4 p50 p51 l5 p60 p61 l6;obtain⟨p70,p71,l7⟩:=Kc1_4.out.use2;obtain⟨p80,p81,l8⟩:=Kc2_4.out.use2;obtain⟨p90,p91,l9⟩:=Kc3_4.out.use2;obtain⟨p100,p101,p102,p103,l10⟩:=Kr_4.out.use4;obtain⟨r100,r101,r102,r103⟩:=Kr_4.out.into4))
 go_wp2
 obtain⟨WF,hWF⟩ : ∃W,W=((((w4.setCell ⟨w.heap.size+1+1,0,none⟩ (.bool b4)).setCell ⟨w.heap.size+1+1,1,none⟩ (.slice A4 n4 c4)).setCell ⟨w.heap.size+1+1,2,none⟩ (.bool d4)).setCell ⟨w.heap.size+1+1,3,none⟩ (.slice B4 m4 k4)):=⟨_,rfl⟩
 rw [← hWF]
 have kq:Blk WF (w.heap.size+1+1) 36 #[.bool b4,.slice A4 n4 c4,.bool d4,.slice B4 m4 k4]:=by rw [hWF];exact Kr_4.out.own4
 have hBF:Below w.heap.size w WF:=by rw [hWF];exact Below.set4 (HB_4.out) jvm6
 have f1:IsInt WF (.agg #[.bool b4,.slice A4 n4 c4]) (x+y).num := jnfe
 have f2:IsInt WF (.agg #[.bool d4,.slice B4 m4 k4]) ((x+y).den:Int) := jctk
 have HE:Hid (RatPost w WF (Ending.returned (.agg #[.bool b4,.slice A4 n4 c4,.bool d4,.slice B4 m4 k4])) (x+y)):=⟨_,rfl,⟨_,_,_,_,rfl,f1,f2⟩,hBF⟩
 obtain⟨e0,e1,e2,e3⟩:=kq.cells4
 clear hWF
 exact bodyPost_ret (v := .agg #[.bool b4,.slice A4 n4 c4,.bool d4,.slice B4 m4 k4]) (by simp [results,Tryz.results31,go_sem,e0,e1,e2,e3] <;> omega) rfl HE.out
theorem radd_q {k l:Nat} {w:World} {v v':Value} {x y:Rat}(hx:LimQ k w v x)(hy:LimQ l w v' y)(hk:k≤20000)(hl:l≤20000)(h1:1≤k)(h1':1≤l):Calls Tryz.prog 31 #[v,v'] w fun e w'=>RatPost w w' e (x+y):=by
 have Hx:=hx
 have Hy:=hy
 obtain⟨X,Y,hx,rfl⟩:=hx
 obtain⟨X',Y',hy,rfl⟩:=hy
 obtain⟨b,A,n,c,b',A',n',c',rfl,-,-⟩:=hx.form
 obtain⟨p,P,m,d,p',P',m',d',rfl,-,-⟩:=hy.form
 exact radd_q0 b A n c b' A' n' c' p P m d p' P' m' d' w k l _ _ Hx Hy hk hl h1 h1'
set_option maxRecDepth 100000 in
set_option maxHeartbeats 4000000 in
theorem rmul_q0(b:Bool)(A:Option Addr)(n c:Nat)(b':Bool)(A':Option Addr)(n' c':Nat)(p:Bool)(P:Option Addr)(m d:Nat)(p':Bool)(P':Option Addr)(m' d':Nat)(w:World)(k l:Nat)(x y:Rat)(hx:LimQ k w (.agg #[.bool b,.slice A n c,.bool b',.slice A' n' c']) x)(hy:LimQ l w (.agg #[.bool p,.slice P m d,.bool p',.slice P' m' d']) y)(hk:k≤20000)(hl:l≤20000)(h1:1≤k)(h1':1≤l) :
 Calls Tryz.prog 45 #[(.agg #[.bool b,.slice A n c,.bool b',.slice A' n' c']),(.agg #[.bool p,.slice P m d,.bool p',.slice P' m' d'])] w fun e w'=>RatPost w w' e (x*y):=by
 have bx:=hx.bq h1
 have by':=hy.bq h1'
 have BXN:=Lib.hid bx.1
 have BXD:=Lib.hid (show(x.den:Int).natAbs<4294967296 ^ k from bx.2)
 have BYN:=Lib.hid by'.1
 have BYD:=Lib.hid (show(y.den:Int).natAbs<4294967296 ^ l from by'.2)
 clear bx by'
 have x_0:=Lib.hid hx
 have y_0:=Lib.hid hy
 clear hx hy
 have BNN:Hid ((x.num*y.num).natAbs<4294967296 ^ (k+l)):=i_mul BXN.out BYN.out (k+l) j0i3
 have BDD:Hid (((x.den:Int)*y.den).natAbs<4294967296 ^ (k+l)):=i_mul BXD.out BYD.out (k+l) j0i3
 have BD4:Hid (0<(x.den:Int)*y.den):=Int.mul_pos (den_pos' x) (den_pos' y)
 go_enter Tryz.func45,Tryz.ntmps45
 go_wp2_with fail
 refine Calls.mono (r_plain (((x_0.out.alloc_ _).alloc_ _).alloc_ _) j0i3) ?_
 rintro e w1 ⟨v,rfl,h,hb⟩
 obtain⟨b1,A1,n1,c1,d1,B1,m1,k1,rfl,-,-,-,h1,h2⟩:=h.form
 have hB:=bun (bun (bun (hb)))
 have y_1:=Lib.hid (y_0.out.below hB)
 have Ka_1:=Lib.hid (show Blk w1 (w.heap.size) 36 #[.bool b,.slice A n c,.bool b',.slice A' n' c'] from(((Blk.new _ _ jupy _ _).alloc_ _).alloc_ _).below hb)
 have Kb_1:=Lib.hid (show Blk w1 (w.heap.size+1) 36 #[.bool p,.slice P m d,.bool p',.slice P' m' d'] from((Blk.new _ _ jupy _ _).alloc_ _).below hb)
 have Kr_1:=Lib.hid (show Blk w1 (w.heap.size+1+1) 36 #[.bool false,.slice none 0 0,.bool false,.slice none 0 0] from(Blk.new _ _ jupy _ _).below hb)
 have xn_1:=Lib.hid (h1)
 have xd_1:=Lib.hid (h2)
 have HB_1:=Lib.hid (hB)
 have hs_1:w.heap.size≤w1.heap.size:=HB_1.out.size
 have hz_1:w.heap.size+3≤w1.heap.size := jrv7
 clear hB hb x_0 y_0
 obtain⟨p10,p11,p12,p13,l1⟩:=Kb_1.out.use4
 go_wp2_with fail
 refine Calls.mono (r_plain (y_1.out.alloc_ _) j0i3) ?_
 rintro e w2 ⟨v,rfl,h,hb⟩
 obtain⟨b2,A2,n2,c2,d2,B2,m2,k2,rfl,-,-,-,h1,h2⟩:=h.form
 have hB:=bun (hb)
 have xn_2:=Lib.hid (xn_1.out.below hB)
 have xd_2:=Lib.hid (xd_1.out.below hB)
 have Kr_2:=Lib.hid (Kr_1.out.below hB)
 have Kx_2:=Lib.hid (show Blk w2 (w1.heap.size) 36 #[.bool b1,.slice A1 n1 c1,.bool d1,.slice B1 m1 k1] from(Blk.new _ _ jupy _ _).below hb)
 have yn_2:=Lib.hid (h1)
 have yd_2:=Lib.hid (h2)
 have HB_2:=Lib.hid (below_trans HB_1.out hB)
 have hs_2:w.heap.size≤w2.heap.size:=HB_2.out.size
 have hz_2:w1.heap.size+1≤w2.heap.size := jrv7
 clear hB hb y_1 xn_1 xd_1 Ka_1 Kb_1 Kr_1 HB_1 p10 p11 p12 p13 l1
 go_wp2
 generalize hW:(w2.alloc (.cells #[.bool b2,.slice A2 n2 c2,.bool d2,.slice B2 m2 k2] 36))=w3
 have xn_3:=Lib.hid (hW▸(xn_2.out.alloc_ _))
 have xd_3:=Lib.hid (hW▸(xd_2.out.alloc_ _))
 have yn_3:=Lib.hid (hW▸(yn_2.out.alloc_ _))
 have yd_3:=Lib.hid (hW▸(yd_2.out.alloc_ _))
 have Kr_3:=Lib.hid (show Blk w3 (w.heap.size+1+1) 36 #[.bool false,.slice none 0 0,.bool false,.slice none 0 0] from by rw [← hW];exact(Kr_2.out.alloc_ _))
 have Kx_3:=Lib.hid (show Blk w3 (w1.heap.size) 36 #[.bool b1,.slice A1 n1 c1,.bool d1,.slice B1 m1 k1] from by rw [← hW];exact(Kx_2.out.alloc_ _))
 have Ky_3:=Lib.hid (show Blk w3 (w2.heap.size) 36 #[.bool b2,.slice A2 n2 c2,.bool d2,.slice B2 m2 k2] from jc21)
 have HB_3:=Lib.hid (show Below w.heap.size w w3 from jkla)
 have hs_3:w.heap.size≤w3.heap.size:=HB_3.out.size
 have hz_3:w2.heap.size+1≤w3.heap.size := j59e
 clear hW xn_2 xd_2 yn_2 yd_2 Kr_2 Kx_2 HB_2
 obtain⟨p20,p21,p22,p23,l2⟩:=Kx_3.out.use4
 obtain⟨p30,p31,p32,p33,l3⟩:=Ky_3.out.use4
 have tok0:True:=trivial
 have tok1:True:=trivial
 have tok2:True:=trivial
 go_region_held3 (fun w'=>w'.cell? ⟨w1.heap.size,0,none⟩=some (.bool b1)∧w'.cell? ⟨w1.heap.size,1,none⟩=some (.slice A1 n1 c1)∧w'.cell? ⟨w1.heap.size,2,none⟩=some (.bool d1)∧w'.cell? ⟨w1.heap.size,3,none⟩=some (.slice B1 m1 k1)∧w'.cell? ⟨w2.heap.size,0,none⟩=some (.bool b2)∧w'.cell? ⟨w2.heap.size,1,none⟩=some (.slice A2 n2 c2)∧w'.cell? ⟨w2.heap.size,2,none⟩=some (.bool d2)∧w'.cell? ⟨w2.heap.size,3,none⟩=some (.slice B2 m2 k2)) (first | (refine⟨?_,?_,?_,?_,?_,?_,?_,?_⟩ <;> (first | with_reducible assumption | ((with_reducible refine Eq.trans (cell_drew _ _) ?_);with_reducible assumption) | ((rw [cell_far4 _ _ _ _ _ _ _ _ j0i3]);with_reducible assumption) | ((repeat rw [cell_far2 _ _ _ _ _ _ j0i3]);with_reducible assumption) | go_keep)) | trivial | go_keep)
  (first
   |(go_at_call 82;have _t:=tok0;clear _t tok0;((with_reducible refine Calls.mono (li_rmul (IsInt.lim (k:=k) jji3 BXN.out) (IsInt.lim (k:=l) (by first | exact yn_3.out | exact yn_3.out.drew_ | exact yn_3.out.alloc_ _ | exact(yn_3.out.alloc_ _).drew_) BYN.out) j0i3 j0i3) ?_));rintro e w4 ⟨v,rfl,h,hb⟩;obtain⟨b4,A4,n4,c4,rfl,-,-,h⟩:=h.form;have hB:=(show Below w3.heap.size w3 w4 from jfh7);have xn_4:=Lib.hid (xn_3.out.below hB);have xd_4:=Lib.hid (xd_3.out.below hB);have yn_4:=Lib.hid (yn_3.out.below hB);have yd_4:=Lib.hid (yd_3.out.below hB);have Kr_4:=Lib.hid (Kr_3.out.below hB);have Kx_4:=Lib.hid (Kx_3.out.below hB);have Ky_4:=Lib.hid (Ky_3.out.below hB);have f_4:=Lib.hid (h);have HB_4:=Lib.hid (below_trans HB_3.out hB);have hs_4:w.heap.size≤w4.heap.size:=HB_4.out.size;have hz_4:w3.heap.size+0≤w4.heap.size := jrv7;clear hB hb xn_3 xd_3 yn_3 yd_3 Kr_3 Kx_3 Ky_3 HB_3 p20 p21 p22 p23 l2 p30 p31 p32 p33 l3;obtain⟨p40,p41,p42,p43,l4⟩:=Kx_4.out.use4;obtain⟨p50,p51,p52,p53,l5⟩:=Ky_4.out.use4)
   |(go_at_call 82;have _t:=tok1;clear _t tok1;((with_reducible refine Calls.mono (li_rmul (IsInt.lim (k:=k) jvf0 BXD.out) (IsInt.lim (k:=l) (by first | exact yd_4.out | exact yd_4.out.drew_ | exact yd_4.out.alloc_ _ | exact(yd_4.out.alloc_ _).drew_) BYD.out) j0i3 j0i3) ?_));rintro e w5 ⟨v,rfl,h,hb⟩;obtain⟨b5,A5,n5,c5,rfl,-,-,h⟩:=h.form;have hB:=(show Below w4.heap.size w4 w5 from jfh7);have xn_5:=Lib.hid (xn_4.out.below hB);have xd_5:=Lib.hid (xd_4.out.below hB);have yn_5:=Lib.hid (yn_4.out.below hB);have yd_5:=Lib.hid (yd_4.out.below hB);have f_5:=Lib.hid (f_4.out.below hB);have Kr_5:=Lib.hid (Kr_4.out.below hB);have Kx_5:=Lib.hid (Kx_4.out.below hB);have Ky_5:=Lib.hid (Ky_4.out.below hB);have g_5:=Lib.hid (h);have HB_5:=Lib.hid (below_trans HB_4.out hB);have hs_5:w.heap.size≤w5.heap.size:=HB_5.out.size;have hz_5:w4.heap.size+0≤w5.heap.size := jrv7;clear hB hb xn_4 xd_4 yn_4 yd_4 f_4 Kr_4 Kx_4 Ky_4 HB_4 p40 p41 p42 p43 l4 p50 p51 p52 p53 l5;obtain⟨p60,p61,p62,p63,l6⟩:=Kx_5.out.use4;obtain⟨p70,p71,p72,p73,l7⟩:=Ky_5.out.use4)
   |(go_at_call 43;have _t:=tok2;clear _t tok2;((with_reducible refine Calls.mono (r_plain (k:=k+l) (limQ_mk (IsInt.lim (k:=k+l) (by first | exact f_5.out | exact f_5.out.drew_ | exact f_5.out.alloc_ _ | exact(f_5.out.alloc_ _).drew_) BNN.out) (IsInt.lim (k:=k+l) (by first | exact g_5.out | exact g_5.out.drew_ | exact g_5.out.alloc_ _ | exact(g_5.out.alloc_ _).drew_) BDD.out) BD4.out (cross_mul x y)) j0i3) ?_));rintro e w6 ⟨v,rfl,h,hb⟩;obtain⟨b6,A6,n6,c6,d6,B6,m6,k6,rfl,-,-,-,h1,h2⟩:=h.form;have hB:=(show Below w5.heap.size w5 w6 from jfh7);have Kr_6:=Lib.hid (Kr_5.out.below hB);have Kx_6:=Lib.hid (Kx_5.out.below hB);have Ky_6:=Lib.hid (Ky_5.out.below hB);have z_6:=Lib.hid (h1);have z2_6:=Lib.hid (h2);have HB_6:=Lib.hid (below_trans HB_5.out hB);have hs_6:w.heap.size≤w6.heap.size:=HB_6.out.size;have hz_6:w5.heap.size+0≤w6.heap.size := jrv7;clear hB hb xn_5 xd_5 yn_5 yd_5 f_5 g_5 Kr_5 Kx_5 Ky_5 HB_5 p60 p61 p62 p63 l6 p70 p71 p72 p73 l7;obtain⟨p80,p81,p82,p83,l8⟩:=Kx_6.out.use4;obtain⟨p90,p91,p92,p93,l9⟩:=Ky_6.out.use4;obtain⟨p100,p101,p102,p103,l10⟩:=Kr_6.out.use4;obtain⟨r100,r101,r102,r103⟩:=Kr_6.out.into4))
 go_wp2
 obtain⟨WF,hWF⟩ : ∃W,W=((((w6.setCell ⟨w.heap.size+1+1,0,none⟩ (.bool b6)).setCell ⟨w.heap.size+1+1,1,none⟩ (.slice A6 n6 c6)).setCell ⟨w.heap.size+1+1,2,none⟩ (.bool d6)).setCell ⟨w.heap.size+1+1,3,none⟩ (.slice B6 m6 k6)):=⟨_,rfl⟩
 rw [← hWF]
 have kq:Blk WF (w.heap.size+1+1) 36 #[.bool b6,.slice A6 n6 c6,.bool d6,.slice B6 m6 k6]:=by rw [hWF];exact Kr_6.out.own4
 have hBF:Below w.heap.size w WF:=by rw [hWF];exact Below.set4 (HB_6.out) jvm6
 have f1:IsInt WF (.agg #[.bool b6,.slice A6 n6 c6]) (x*y).num:=by rw [hWF];exact z_6.out.other4 Kr_6.out nu nu nu nu
 have f2:IsInt WF (.agg #[.bool d6,.slice B6 m6 k6]) ((x*y).den:Int):=by rw [hWF];exact z2_6.out.other4 Kr_6.out nu nu nu nu
 have HE:Hid (RatPost w WF (Ending.returned (.agg #[.bool b6,.slice A6 n6 c6,.bool d6,.slice B6 m6 k6])) (x*y)):=⟨_,rfl,⟨_,_,_,_,rfl,f1,f2⟩,hBF⟩
 obtain⟨e0,e1,e2,e3⟩:=kq.cells4
 clear hWF
 exact bodyPost_ret (v := .agg #[.bool b6,.slice A6 n6 c6,.bool d6,.slice B6 m6 k6]) (by simp [results,Tryz.results45,go_sem,e0,e1,e2,e3] <;> omega) rfl HE.out
theorem rmul_q {k l:Nat} {w:World} {v v':Value} {x y:Rat}(hx:LimQ k w v x)(hy:LimQ l w v' y)(hk:k≤20000)(hl:l≤20000)(h1:1≤k)(h1':1≤l):Calls Tryz.prog 45 #[v,v'] w fun e w'=>RatPost w w' e (x*y):=by
 have Hx:=hx
 have Hy:=hy
 obtain⟨X,Y,hx,rfl⟩:=hx
 obtain⟨X',Y',hy,rfl⟩:=hy
 obtain⟨b,A,n,c,b',A',n',c',rfl,-,-⟩:=hx.form
 obtain⟨p,P,m,d,p',P',m',d',rfl,-,-⟩:=hy.form
 exact rmul_q0 b A n c b' A' n' c' p P m d p' P' m' d' w k l _ _ Hx Hy hk hl h1 h1'
set_option maxRecDepth 100000 in
set_option maxHeartbeats 1000000 in
theorem same_q0(b:Bool)(A:Option Addr)(n c:Nat)(b':Bool)(A':Option Addr)(n' c':Nat)(p:Bool)(P:Option Addr)(m d:Nat)(p':Bool)(P':Option Addr)(m' d':Nat)(w:World)(k l:Nat)(x:Rat)(hx:IsRat w (.agg #[.bool b,.slice A n c,.bool b',.slice A' n' c']) x)(hy:IsRat w (.agg #[.bool p,.slice P m d,.bool p',.slice P' m' d']) x)(hb:BQ k x)(hk:k≤100000) :
 Calls Tryz.prog 14 #[(.agg #[.bool b,.slice A n c,.bool b',.slice A' n' c']),(.agg #[.bool p,.slice P m d,.bool p',.slice P' m' d'])] w fun e w'=>e = .returned (.bool true)∧Below w.heap.size w w':=by
 obtain⟨_,_,_,_,e0,s1,s2⟩:=hx
 injection e0 with e0
 injection e0 with e0
 simp at e0
 obtain⟨rfl,rfl,rfl,rfl⟩:=e0
 obtain⟨_,_,_,_,e0,s3,s4⟩:=hy
 injection e0 with e0
 injection e0 with e0
 simp at e0
 obtain⟨rfl,rfl,rfl,rfl⟩:=e0
 have BN:=Lib.hid hb.1
 have BD:=Lib.hid (show((x.den:Int)).natAbs<4294967296 ^ k from hb.2)
 have x_0:=Lib.hid s1
 have y_0:=Lib.hid s2
 have u_0:=Lib.hid s3
 have v_0:=Lib.hid s4
 clear s1 s2 s3 s4 hb
 go_enter Tryz.func14,Tryz.ntmps14
 go_wp2_with fail
 refine Calls.mono (isInt_same ((x_0.out.alloc_ _).alloc_ _) ((u_0.out.alloc_ _).alloc_ _) BN.out j0i3) ?_
 rintro e w1 ⟨rfl,hb⟩
 have hB:=bun (bun (hb))
 have y_1:=Lib.hid (y_0.out.below hB)
 have v_1:=Lib.hid (v_0.out.below hB)
 have Ka_1:=Lib.hid (show Blk w1 (w.heap.size) 36 #[.bool b,.slice A n c,.bool b',.slice A' n' c'] from((Blk.new _ _ jupy _ _).alloc_ _).below hb)
 have Kb_1:=Lib.hid (show Blk w1 (w.heap.size+1) 36 #[.bool p,.slice P m d,.bool p',.slice P' m' d'] from(Blk.new _ _ jupy _ _).below hb)
 have HB_1:=Lib.hid (hB)
 have hs_1:w.heap.size≤w1.heap.size:=HB_1.out.size
 have hz_1:w.heap.size+2≤w1.heap.size := jrv7
 clear hB hb x_0 y_0 u_0 v_0
 obtain⟨p10,p11,p12,p13,l1⟩:=Ka_1.out.use4
 obtain⟨p20,p21,p22,p23,l2⟩:=Kb_1.out.use4
 go_wp2_with fail
 refine Calls.mono (isInt_same y_1.out v_1.out BD.out j0i3) ?_
 rintro e w2 ⟨rfl,hb⟩
 have hB:=hb
 have y_2:=Lib.hid (y_1.out.below hB)
 have v_2:=Lib.hid (v_1.out.below hB)
 have Ka_2:=Lib.hid (Ka_1.out.below hB)
 have Kb_2:=Lib.hid (Kb_1.out.below hB)
 have HB_2:=Lib.hid (below_trans HB_1.out hB)
 have hs_2:w.heap.size≤w2.heap.size:=HB_2.out.size
 have hz_2:w1.heap.size+0≤w2.heap.size := jrv7
 clear hB hb y_1 v_1 Ka_1 Kb_1 HB_1 p10 p11 p12 p13 l1 p20 p21 p22 p23 l2
 go_wp2
 go_ret
 exact⟨rfl,HB_2.out⟩
theorem rat_same {k:Nat} {w:World} {v v':Value} {x:Rat}(hx:IsRat w v x)(hy:IsRat w v' x)(hb:BQ k x)(hk:k≤100000):Calls Tryz.prog 14 #[v,v'] w fun e w'=>e = .returned (.bool true)∧Below w.heap.size w w':=by
 have Hx:=hx
 have Hy:=hy
 obtain⟨b,A,n,c,b',A',n',c',rfl,-⟩:=hx.form
 obtain⟨p,P,m,d,p',P',m',d',rfl,-⟩:=hy.form
 exact same_q0 b A n c b' A' n' c' p P m d p' P' m' d' w k 0 x Hx Hy hb hk
end Go.Proofs.YtgilnmhejjpleaaGreat
