/- Contracts of the document's own whole numbers: Add, Sub, Cmp. -/
import Derived.Test.YtgilnmhejjpleaaGreatPWi
namespace Go.Proofs.YtgilnmhejjpleaaGreat
open Go.RowKit
attribute [local go_sem ↓] Go.wp_at_zero Go.wp_at_succ
theorem jaw6 {P:Prop}(h:P:=by simp [results, Tryz.results65, go_sem, e0, e1]):P:=h
theorem jo8x {P:Prop}(h:P:=by repeat first | exact Below.refl _ _ | exact HB1.out | (with_reducible refine Below.trans ?_ (Below.mono jiib ?_)) | (with_reducible refine Below.alloc_ ?_ ?_ _) | (with_reducible refine Below.drew ?_) | (with_reducible refine Below.set2 ?_ ?_) | exact Nat.le_refl _ | omega | focus (simp <;> omega)):P:=h
theorem jrnj {P:Prop}(h:P:=by repeat first | exact Below.refl _ _ | exact HB4.out | (with_reducible refine Below.trans ?_ (Below.mono jiib ?_)) | (with_reducible refine Below.alloc_ ?_ ?_ _) | (with_reducible refine Below.drew ?_) | (with_reducible refine Below.set2 ?_ ?_) | exact Nat.le_refl _ | omega | focus (simp <;> omega)):P:=h
theorem ju0z {P:Prop}(h:P:=by repeat first | exact Below.refl _ _ | exact HB2.out | (with_reducible refine Below.trans ?_ (Below.mono jiib ?_)) | (with_reducible refine Below.alloc_ ?_ ?_ _) | (with_reducible refine Below.drew ?_) | (with_reducible refine Below.set2 ?_ ?_) | exact Nat.le_refl _ | omega | focus (simp <;> omega)):P:=h
theorem jxp2 {P:Prop}(h:P:=by repeat first | exact Below.refl _ _ | exact HB3.out | (with_reducible refine Below.trans ?_ (Below.mono jiib ?_)) | (with_reducible refine Below.alloc_ ?_ ?_ _) | (with_reducible refine Below.drew ?_) | (with_reducible refine Below.set2 ?_ ?_) | exact Nat.le_refl _ | omega | focus (simp <;> omega)):P:=h
theorem cmpN_neg(N M:Nat) : -cmpN N M=cmpN M N:=by
 unfold cmpN
 by_cases a:N<M
 ·rw [if_pos a,if_neg j0i3,if_neg j0i3];rfl
 ·by_cases b:N=M
  ·subst b;rw [if_neg a,if_pos rfl];rfl
  ·rw [if_neg a,if_neg b,if_pos j0i3]
theorem cmpN_bd(N M:Nat) : -1≤cmpN N M∧cmpN N M≤1:=by
 unfold cmpN
 by_cases a:N<M
 ·rw [if_pos a];omega
 ·rw [if_neg a]
  by_cases b:N=M
  ·rw [if_pos b];omega
  ·rw [if_neg b];omega
set_option maxRecDepth 100000 in
set_option maxHeartbeats 2000000 in
theorem rcmp_ff(b b':Bool)(A:Option Addr)(n c N k:Nat)(B:Option Addr)(m d M l:Nat)(w:World)(h:Lim k w (.slice A n c) N)(h':Lim l w (.slice B m d) M)(hk:k≤400000)(hl:l≤400000)(hp:decide (sg b N<0)=false)(hq:decide (sg b' M<0)=false) :
 Calls Tryz.prog 62 #[.agg #[.bool b,.slice A n c],.agg #[.bool b',.slice B m d]] w fun e w'=>e = .returned (.int .i64 (cmpN N M))∧Below w.heap.size w w':=by
 have hs0:w.heap.size<w.heap.size+1+1 := j0i3
 go_enter Tryz.func62,Tryz.ntmps62
 go_wp2_with fail
 refine Calls.mono (li_rplain (k:=k) (X:=sg b N) (limI_mk jcbb) j0i3) ?_
 rintro e w1 ⟨v1,rfl,⟨m1,rfl,h1⟩,hb1⟩
 rw [sg_abs] at h1;rw [hp];obtain⟨A1,n1,c1,rfl,hn1,h1⟩:=isNat_form h1
 have hz1:w.heap.size+2≤w1.heap.size := j15l
 have k1_a:=Blk.below (g:=w.heap.size) (t:=34) (cs := #[.bool b,.slice A n c]) jcbb hb1
 have p1_a:=k1_a.cell0
 have q1_a:=k1_a.cell1
 have K1_a:=Lib.hid k1_a;clear k1_a
 have k1_b:=Blk.below (g:=w.heap.size+1) (t:=34) (cs := #[.bool b',.slice B m d]) jcbb hb1
 have p1_b:=k1_b.cell0
 have q1_b:=k1_b.cell1
 have K1_b:=Lib.hid k1_b;clear k1_b
 have HL1:=Lib.hid (show Lim l w1 (.slice B m d) M from jcbb)
 have HB1:=Lib.hid (show Below w.heap.size w w1 from jjrw)
 clear hb1
 have hl1:w.heap.size+1<w1.heap.size := j0i3
 go_wp2_with fail
 refine Calls.mono (li_rplain (k:=l) (X:=sg b' M) (limI_mk jcbb) j0i3) ?_
 rintro e w2 ⟨v2,rfl,⟨m2,rfl,h2⟩,hb2⟩
 rw [sg_abs] at h2;rw [hq];obtain⟨A2,n2,c2,rfl,hn2,h2⟩:=isNat_form h2;have h1:IsNat w2 (.slice A1 n1 c1) N:=(h1.alloc_ (.cells #[.bool false,.slice A1 n1 c1] 34)).below hb2
 have hz2:w1.heap.size+1≤w2.heap.size := jd6e
 have k2_x:=Blk.below (g:=w1.heap.size) (t:=34) (cs := #[.bool false,.slice A1 n1 c1]) jcbb hb2
 have p2_x:=k2_x.cell0
 have q2_x:=k2_x.cell1
 have K2_x:=Lib.hid k2_x;clear k2_x
 have HB2:=Lib.hid (show Below w.heap.size w w2 from jo8x)
 clear hb2
 have hxy:w1.heap.size<w2.heap.size := j0i3
 have hkx:=Lib.hid ((K2_x.out.alloc_ (.cells #[.bool false,.slice A2 n2 c2] 34)))
 have hky:=Lib.hid (Blk.new w2 w2.heap.size rfl 34 #[.bool false,.slice A2 n2 c2])
 have hx3:=Lib.hid ((h1.lim h.lt).alloc_ (.cells #[.bool false,.slice A2 n2 c2] 34))
 have hy3:=Lib.hid ((h2.lim h'.lt).alloc_ (.cells #[.bool false,.slice A2 n2 c2] 34))
 go_wp2_with fail
 refine Calls.mono (rCmp (k:=k) (m:=l) (N:=N) (M:=M) hx3.out hy3.out j0i3 j0i3) ?_
 rintro e w3 ⟨rfl,hb3⟩
 have hz3:w2.heap.size+1≤w3.heap.size := jfkf
 have k3_x:=Blk.below (g:=w1.heap.size) (t:=34) (cs := #[_,_]) jcbb hb3
 have p3_x:=k3_x.cell0
 have q3_x:=k3_x.cell1
 have K3_x:=Lib.hid k3_x;clear k3_x
 have HB3:=Lib.hid (show Below w.heap.size w w3 from ju0z)
 clear hb3
 go_wp2
 go_ret
 exact⟨rfl,HB3.out⟩
set_option maxRecDepth 100000 in
set_option maxHeartbeats 2000000 in
theorem rcmp_tt(b b':Bool)(A:Option Addr)(n c N k:Nat)(B:Option Addr)(m d M l:Nat)(w:World)(h:Lim k w (.slice A n c) N)(h':Lim l w (.slice B m d) M)(hk:k≤400000)(hl:l≤400000)(hp:decide (sg b N<0)=true)(hq:decide (sg b' M<0)=true) :
 Calls Tryz.prog 62 #[.agg #[.bool b,.slice A n c],.agg #[.bool b',.slice B m d]] w fun e w'=>e = .returned (.int .i64 (cmpN M N))∧Below w.heap.size w w':=by
 have hs0:w.heap.size<w.heap.size+1+1 := j0i3
 go_enter Tryz.func62,Tryz.ntmps62
 go_wp2_with fail
 refine Calls.mono (li_rplain (k:=k) (X:=sg b N) (limI_mk jcbb) j0i3) ?_
 rintro e w1 ⟨v1,rfl,⟨m1,rfl,h1⟩,hb1⟩
 rw [sg_abs] at h1;rw [hp];obtain⟨A1,n1,c1,rfl,hn1,h1⟩:=isNat_form h1
 have hz1:w.heap.size+2≤w1.heap.size := j15l
 have k1_a:=Blk.below (g:=w.heap.size) (t:=34) (cs := #[.bool b,.slice A n c]) jcbb hb1
 have p1_a:=k1_a.cell0
 have q1_a:=k1_a.cell1
 have K1_a:=Lib.hid k1_a;clear k1_a
 have k1_b:=Blk.below (g:=w.heap.size+1) (t:=34) (cs := #[.bool b',.slice B m d]) jcbb hb1
 have p1_b:=k1_b.cell0
 have q1_b:=k1_b.cell1
 have K1_b:=Lib.hid k1_b;clear k1_b
 have HL1:=Lib.hid (show Lim l w1 (.slice B m d) M from jcbb)
 have HB1:=Lib.hid (show Below w.heap.size w w1 from jjrw)
 clear hb1
 have hl1:w.heap.size+1<w1.heap.size := j0i3
 go_wp2_with fail
 refine Calls.mono (li_rplain (k:=l) (X:=sg b' M) (limI_mk jcbb) j0i3) ?_
 rintro e w2 ⟨v2,rfl,⟨m2,rfl,h2⟩,hb2⟩
 rw [sg_abs] at h2;rw [hq];obtain⟨A2,n2,c2,rfl,hn2,h2⟩:=isNat_form h2;have h1:IsNat w2 (.slice A1 n1 c1) N:=(h1.alloc_ (.cells #[.bool true,.slice A1 n1 c1] 34)).below hb2
 have hz2:w1.heap.size+1≤w2.heap.size := jd6e
 have k2_x:=Blk.below (g:=w1.heap.size) (t:=34) (cs := #[.bool true,.slice A1 n1 c1]) jcbb hb2
 have p2_x:=k2_x.cell0
 have q2_x:=k2_x.cell1
 have K2_x:=Lib.hid k2_x;clear k2_x
 have HB2:=Lib.hid (show Below w.heap.size w w2 from jo8x)
 clear hb2
 have hxy:w1.heap.size<w2.heap.size := j0i3
 have hkx:=Lib.hid ((K2_x.out.alloc_ (.cells #[.bool true,.slice A2 n2 c2] 34)))
 have hky:=Lib.hid (Blk.new w2 w2.heap.size rfl 34 #[.bool true,.slice A2 n2 c2])
 have hx3:=Lib.hid ((h1.lim h.lt).alloc_ (.cells #[.bool true,.slice A2 n2 c2] 34))
 have hy3:=Lib.hid ((h2.lim h'.lt).alloc_ (.cells #[.bool true,.slice A2 n2 c2] 34))
 go_wp2_with fail
 refine Calls.mono (rCmp (k:=k) (m:=l) (N:=N) (M:=M) hx3.out hy3.out j0i3 j0i3) ?_
 rintro e w3 ⟨rfl,hb3⟩
 have hz3:w2.heap.size+1≤w3.heap.size := jfkf
 have k3_x:=Blk.below (g:=w1.heap.size) (t:=34) (cs := #[_,_]) jcbb hb3
 have p3_x:=k3_x.cell0
 have q3_x:=k3_x.cell1
 have K3_x:=Lib.hid k3_x;clear k3_x
 have hcn:=Lib.hid (cmpN_neg N M)
 have hcb:=cmpN_bd N M
 generalize cmpN N M=r at *
 have HB3:=Lib.hid (show Below w.heap.size w w3 from ju0z)
 clear hb3
 go_wp2
 go_ret
 exact⟨by rw [← hcn.out];rfl,HB3.out⟩
set_option maxRecDepth 100000 in
set_option maxHeartbeats 2000000 in
theorem rcmp_tf(b b':Bool)(A:Option Addr)(n c N k:Nat)(B:Option Addr)(m d M l:Nat)(w:World)(h:Lim k w (.slice A n c) N)(h':Lim l w (.slice B m d) M)(hk:k≤400000)(hl:l≤400000)(hp:decide (sg b N<0)=true)(hq:decide (sg b' M<0)=false) :
 Calls Tryz.prog 62 #[.agg #[.bool b,.slice A n c],.agg #[.bool b',.slice B m d]] w fun e w'=>e = .returned (.int .i64 (-1))∧Below w.heap.size w w':=by
 have hs0:w.heap.size<w.heap.size+1+1 := j0i3
 go_enter Tryz.func62,Tryz.ntmps62
 go_wp2_with fail
 refine Calls.mono (li_rplain (k:=k) (X:=sg b N) (limI_mk jcbb) j0i3) ?_
 rintro e w1 ⟨v1,rfl,⟨m1,rfl,h1⟩,hb1⟩
 rw [sg_abs] at h1;rw [hp];obtain⟨A1,n1,c1,rfl,hn1,h1⟩:=isNat_form h1
 have hz1:w.heap.size+2≤w1.heap.size := j15l
 have k1_a:=Blk.below (g:=w.heap.size) (t:=34) (cs := #[.bool b,.slice A n c]) jcbb hb1
 have p1_a:=k1_a.cell0
 have q1_a:=k1_a.cell1
 have K1_a:=Lib.hid k1_a;clear k1_a
 have k1_b:=Blk.below (g:=w.heap.size+1) (t:=34) (cs := #[.bool b',.slice B m d]) jcbb hb1
 have p1_b:=k1_b.cell0
 have q1_b:=k1_b.cell1
 have K1_b:=Lib.hid k1_b;clear k1_b
 have HL1:=Lib.hid (show Lim l w1 (.slice B m d) M from jcbb)
 have HB1:=Lib.hid (show Below w.heap.size w w1 from jjrw)
 clear hb1
 have hl1:w.heap.size+1<w1.heap.size := j0i3
 go_wp2_with fail
 refine Calls.mono (li_rplain (k:=l) (X:=sg b' M) (limI_mk jcbb) j0i3) ?_
 rintro e w2 ⟨v2,rfl,⟨m2,rfl,h2⟩,hb2⟩
 rw [sg_abs] at h2;rw [hq];obtain⟨A2,n2,c2,rfl,hn2,h2⟩:=isNat_form h2;have h1:IsNat w2 (.slice A1 n1 c1) N:=(h1.alloc_ (.cells #[.bool true,.slice A1 n1 c1] 34)).below hb2
 have hz2:w1.heap.size+1≤w2.heap.size := jd6e
 have k2_x:=Blk.below (g:=w1.heap.size) (t:=34) (cs := #[.bool true,.slice A1 n1 c1]) jcbb hb2
 have p2_x:=k2_x.cell0
 have q2_x:=k2_x.cell1
 have K2_x:=Lib.hid k2_x;clear k2_x
 have HB2:=Lib.hid (show Below w.heap.size w w2 from jo8x)
 clear hb2
 have hxy:w1.heap.size<w2.heap.size := j0i3
 have hkx:=Lib.hid ((K2_x.out.alloc_ (.cells #[.bool false,.slice A2 n2 c2] 34)))
 have hky:=Lib.hid (Blk.new w2 w2.heap.size rfl 34 #[.bool false,.slice A2 n2 c2])
 have hx3:=Lib.hid ((h1.lim h.lt).alloc_ (.cells #[.bool false,.slice A2 n2 c2] 34))
 have hy3:=Lib.hid ((h2.lim h'.lt).alloc_ (.cells #[.bool false,.slice A2 n2 c2] 34))
 have HB3:=Lib.hid (Below.alloc_ HB2.out HB2.out.size (.cells #[.bool false,.slice A2 n2 c2] 34))
 go_wp2
 go_ret
 exact⟨rfl,HB3.out⟩
set_option maxRecDepth 100000 in
set_option maxHeartbeats 2000000 in
theorem rcmp_ft(b b':Bool)(A:Option Addr)(n c N k:Nat)(B:Option Addr)(m d M l:Nat)(w:World)(h:Lim k w (.slice A n c) N)(h':Lim l w (.slice B m d) M)(hk:k≤400000)(hl:l≤400000)(hp:decide (sg b N<0)=false)(hq:decide (sg b' M<0)=true) :
 Calls Tryz.prog 62 #[.agg #[.bool b,.slice A n c],.agg #[.bool b',.slice B m d]] w fun e w'=>e = .returned (.int .i64 (1))∧Below w.heap.size w w':=by
 have hs0:w.heap.size<w.heap.size+1+1 := j0i3
 go_enter Tryz.func62,Tryz.ntmps62
 go_wp2_with fail
 refine Calls.mono (li_rplain (k:=k) (X:=sg b N) (limI_mk jcbb) j0i3) ?_
 rintro e w1 ⟨v1,rfl,⟨m1,rfl,h1⟩,hb1⟩
 rw [sg_abs] at h1;rw [hp];obtain⟨A1,n1,c1,rfl,hn1,h1⟩:=isNat_form h1
 have hz1:w.heap.size+2≤w1.heap.size := j15l
 have k1_a:=Blk.below (g:=w.heap.size) (t:=34) (cs := #[.bool b,.slice A n c]) jcbb hb1
 have p1_a:=k1_a.cell0
 have q1_a:=k1_a.cell1
 have K1_a:=Lib.hid k1_a;clear k1_a
 have k1_b:=Blk.below (g:=w.heap.size+1) (t:=34) (cs := #[.bool b',.slice B m d]) jcbb hb1
 have p1_b:=k1_b.cell0
 have q1_b:=k1_b.cell1
 have K1_b:=Lib.hid k1_b;clear k1_b
 have HL1:=Lib.hid (show Lim l w1 (.slice B m d) M from jcbb)
 have HB1:=Lib.hid (show Below w.heap.size w w1 from jjrw)
 clear hb1
 have hl1:w.heap.size+1<w1.heap.size := j0i3
 go_wp2_with fail
 refine Calls.mono (li_rplain (k:=l) (X:=sg b' M) (limI_mk jcbb) j0i3) ?_
 rintro e w2 ⟨v2,rfl,⟨m2,rfl,h2⟩,hb2⟩
 rw [sg_abs] at h2;rw [hq];obtain⟨A2,n2,c2,rfl,hn2,h2⟩:=isNat_form h2;have h1:IsNat w2 (.slice A1 n1 c1) N:=(h1.alloc_ (.cells #[.bool false,.slice A1 n1 c1] 34)).below hb2
 have hz2:w1.heap.size+1≤w2.heap.size := jd6e
 have k2_x:=Blk.below (g:=w1.heap.size) (t:=34) (cs := #[.bool false,.slice A1 n1 c1]) jcbb hb2
 have p2_x:=k2_x.cell0
 have q2_x:=k2_x.cell1
 have K2_x:=Lib.hid k2_x;clear k2_x
 have HB2:=Lib.hid (show Below w.heap.size w w2 from jo8x)
 clear hb2
 have hxy:w1.heap.size<w2.heap.size := j0i3
 have hkx:=Lib.hid ((K2_x.out.alloc_ (.cells #[.bool true,.slice A2 n2 c2] 34)))
 have hky:=Lib.hid (Blk.new w2 w2.heap.size rfl 34 #[.bool true,.slice A2 n2 c2])
 have hx3:=Lib.hid ((h1.lim h.lt).alloc_ (.cells #[.bool true,.slice A2 n2 c2] 34))
 have hy3:=Lib.hid ((h2.lim h'.lt).alloc_ (.cells #[.bool true,.slice A2 n2 c2] 34))
 have HB3:=Lib.hid (Below.alloc_ HB2.out HB2.out.size (.cells #[.bool true,.slice A2 n2 c2] 34))
 go_wp2
 go_ret
 exact⟨rfl,HB3.out⟩
theorem li_rcmp {k l:Nat} {w:World} {v v':Value} {X Y:Int}(h:LimI k w v X)(h':LimI l w v' Y)(hk:k≤400000)(hl:l≤400000):Calls Tryz.prog 62 #[v,v'] w fun e w'=>CmpPostI w w' e X Y:=by
 obtain⟨b,m,N,rfl,⟨A,n,c,f,rfl,hr⟩,rfl⟩:=h
 obtain⟨b',m',M,rfl,⟨B,n',c',f',rfl,hr'⟩,rfl⟩:=h'
 have H:Lim k w (.slice A n c) N:=⟨A,n,c,f,rfl,hr⟩
 have H':Lim l w (.slice B n' c') M:=⟨B,n',c',f',rfl,hr'⟩
 unfold CmpPostI
 cases r1:decide (sg b N<0) <;> cases r2:decide (sg b' M<0)
 ·rw [sg_le b N r1,sg_le b' M r2,cmpI_nn]
  exact rcmp_ff b b' A n c N k B n' c' M l w H H' hk hl r1 r2
 ·have e:cmpI (sg b N) (sg b' M)=1:=by
   have a1:=sg_le b N r1
   have a2:=sg_lt b' M r2
   unfold cmpI
   rw [if_neg j0i3,if_neg j0i3]
  rw [e]
  exact rcmp_ft b b' A n c N k B n' c' M l w H H' hk hl r1 r2
 ·have e:cmpI (sg b N) (sg b' M) = -1:=by
   have a1:=sg_lt b N r1
   have a2:=sg_le b' M r2
   unfold cmpI
   rw [if_pos j0i3]
  rw [e]
  exact rcmp_tf b b' A n c N k B n' c' M l w H H' hk hl r1 r2
 ·rw [(sg_lt b N r1).1,(sg_lt b' M r2).1,cmpI_neg]
  exact rcmp_tt b b' A n c N k B n' c' M l w H H' hk hl r1 r2
set_option maxRecDepth 100000 in
set_option maxHeartbeats 2000000 in
theorem radd_same(b b':Bool)(A:Option Addr)(n c N k:Nat)(B:Option Addr)(m d M l:Nat)(w:World)(h:Lim k w (.slice A n c) N)(h':Lim l w (.slice B m d) M)(hk:k≤400000)(hl:l≤400000)(p:Bool)(hp:decide (sg b N<0)=p)(hq:decide (sg b' M<0)=p) :
 Calls Tryz.prog 65 #[.agg #[.bool b,.slice A n c],.agg #[.bool b',.slice B m d]] w fun e w'=>IntPost w w' e (sg p (N+M)):=by
 have hs0:w.heap.size<w.heap.size+1+1+1 := j0i3
 have hs1:w.heap.size+1<w.heap.size+1+1+1 := j0i3
 go_enter Tryz.func65,Tryz.ntmps65
 go_wp2_with fail
 refine Calls.mono (li_rplain (k:=k) (X:=sg b N) (limI_mk jcbb) j0i3) ?_
 rintro e w1 ⟨v1,rfl,⟨m1,rfl,h1⟩,hb1⟩
 rw [sg_abs] at h1;rw [hp];obtain⟨A1,n1,c1,rfl,hn1,h1⟩:=isNat_form h1
 have hz1:w.heap.size+3≤w1.heap.size := j15l
 have k1_a:=Blk.below (g:=w.heap.size) (t:=34) (cs := #[.bool b,.slice A n c]) jcbb hb1
 have p1_a:=k1_a.cell0
 have q1_a:=k1_a.cell1
 have K1_a:=Lib.hid k1_a;clear k1_a
 have k1_b:=Blk.below (g:=w.heap.size+1) (t:=34) (cs := #[.bool b',.slice B m d]) jcbb hb1
 have p1_b:=k1_b.cell0
 have q1_b:=k1_b.cell1
 have K1_b:=Lib.hid k1_b;clear k1_b
 have k1_r:=Blk.below (g:=w.heap.size+1+1) (t:=34) (cs := #[_,_]) jcbb hb1
 have K1_r:=Lib.hid k1_r;clear k1_r
 have HL1:=Lib.hid (show Lim l w1 (.slice B m d) M from jcbb)
 have HB1:=Lib.hid (show Below w.heap.size w w1 from jjrw)
 clear hb1
 have hl1:w.heap.size+1<w1.heap.size := j0i3
 go_wp2_with fail
 refine Calls.mono (li_rplain (k:=l) (X:=sg b' M) (limI_mk jcbb) j0i3) ?_
 rintro e w2 ⟨v2,rfl,⟨m2,rfl,h2⟩,hb2⟩
 rw [sg_abs] at h2;rw [hq];obtain⟨A2,n2,c2,rfl,hn2,h2⟩:=isNat_form h2;have h1:IsNat w2 (.slice A1 n1 c1) N:=(h1.alloc_ (.cells #[.bool p,.slice A1 n1 c1] 34)).below hb2
 have hz2:w1.heap.size+1≤w2.heap.size := jd6e
 have k2_x:=Blk.below (g:=w1.heap.size) (t:=34) (cs := #[.bool p,.slice A1 n1 c1]) jcbb hb2
 have p2_x:=k2_x.cell0
 have q2_x:=k2_x.cell1
 have K2_x:=Lib.hid k2_x;clear k2_x
 have k2_r:=Blk.below (g:=w.heap.size+1+1) (t:=34) (cs := #[_,_]) jcbb hb2
 have K2_r:=Lib.hid k2_r;clear k2_r
 have HB2:=Lib.hid (show Below w.heap.size w w2 from jo8x)
 clear hb2
 have hxy:w1.heap.size<w2.heap.size := j0i3
 have hrx:w.heap.size+1+1<w1.heap.size := j0i3
 have hry:w.heap.size+1+1<w2.heap.size := j0i3
 have hkx:=Lib.hid ((K2_x.out.alloc_ (.cells #[.bool (p),.slice A2 n2 c2] 34)))
 have hky:=Lib.hid (Blk.new w2 w2.heap.size rfl 34 #[.bool (p),.slice A2 n2 c2])
 have hx3:=Lib.hid ((h1.lim h.lt).alloc_ (.cells #[.bool (p),.slice A2 n2 c2] 34))
 have hy3:=Lib.hid ((h2.lim h'.lt).alloc_ (.cells #[.bool (p),.slice A2 n2 c2] 34))
 go_wp2
 have tok1:True:=trivial
 have HN:=Lib.hid (lt_add h.lt h'.lt (k+l+1) j0i3 j0i3)
 go_region_held3 (fun w'=>w'.cell? ⟨w1.heap.size,0,none⟩=some (.bool p)∧w'.cell? ⟨w1.heap.size,1,none⟩=some (.slice A1 n1 c1)∧w'.cell? ⟨w2.heap.size,1,none⟩=some (.slice A2 n2 c2)) (refine⟨?_,?_,?_⟩ <;> first | with_reducible assumption | ((with_reducible refine Eq.trans (cell_drew _ _) ?_);with_reducible assumption) | ((repeat rw [cell_far2 _ _ _ _ _ _ j0i3]);with_reducible assumption) | go_keep)
  (first
   |(go_at_call 99;have _t:=tok1;clear _t tok1;((with_reducible refine Calls.mono (rAdd (k:=k) (m:=l) (N:=N) (M:=M) jcbb jcbb j0i3 j0i3) ?_));rintro e w3 ⟨v3,rfl,h3,hb3⟩;obtain⟨A3,n3,c3,rfl,hn3,h3⟩:=isNat_form h3;have L3:=h3.lim HN.out;have hz3:w2.heap.size+1≤w3.heap.size := jfkf;have k3_x:=Blk.below (g:=w1.heap.size) (t:=34) (cs := #[.bool p,.slice A1 n1 c1]) jcbb hb3;have p3_x:=k3_x.cell0;have q3_x:=k3_x.cell1;have K3_x:=Lib.hid k3_x;clear k3_x;have k3_y:=Blk.below (g:=w2.heap.size) (t:=34) (cs := #[.bool (p),.slice A2 n2 c2]) jcbb hb3;have p3_y:=k3_y.cell0;have q3_y:=k3_y.cell1;have K3_y:=Lib.hid k3_y;clear k3_y;have k3_r:=Blk.below (g:=w.heap.size+1+1) (t:=34) (cs := #[_,_]) jcbb hb3;have K3_r:=Lib.hid k3_r;clear k3_r)
   |(go_at_call 80;((with_reducible refine Calls.mono (li_rplain (k:=k+l+1) (X:=sg p (N+M)) (limI_mk jcbb) j0i3) ?_));rintro e w4 ⟨v4,rfl,⟨m4,rfl,h4⟩,hb4⟩;obtain⟨A4,n4,c4,rfl,hn4,h4⟩:=isNat_form h4;have hz4:w2.heap.size+1≤w4.heap.size := jto4;have k4_x:=Blk.below (g:=w1.heap.size) (t:=34) (cs := #[.bool p,.slice A1 n1 c1]) jcbb hb4;have p4_x:=k4_x.cell0;have q4_x:=k4_x.cell1;have K4_x:=Lib.hid k4_x;clear k4_x;have k4_y:=Blk.below (g:=w2.heap.size) (t:=34) (cs := #[.bool (p),.slice A2 n2 c2]) jcbb hb4;have p4_y:=k4_y.cell0;have q4_y:=k4_y.cell1;have K4_y:=Lib.hid k4_y;clear k4_y;have k4_r:=Blk.below (g:=w.heap.size+1+1) (t:=34) (cs := #[_,_]) jcbb hb4;obtain⟨p4_r,q4_r,r4_r,s4_r,t4_r⟩:=k4_r.facts2;clear q4_r;have K4_r:=Lib.hid k4_r;clear k4_r))
 have HB4:=Lib.hid (show Below w.heap.size w w4 from(by repeat first | exact HB2.out | exact Below.refl _ _ | (with_reducible refine Below.trans ?_ (Below.mono jiib ?_)) | (with_reducible refine Below.alloc_ ?_ ?_ _) | (with_reducible refine Below.drew ?_) | (with_reducible refine Below.set2 ?_ ?_) | exact Nat.le_refl _ | omega | focus (simp <;> omega)))
 go_wp2
 obtain⟨WF,hWF⟩ : ∃W,W=(w4.setCell ⟨w.heap.size+1+1,0,none⟩ (.bool (decide (sg p (N+M)<0)))).setCell ⟨w.heap.size+1+1,1,none⟩ (.slice A4 n4 c4):=⟨_,rfl⟩
 rw [← hWF]
 have kq:Blk WF (w.heap.size+1+1) 34 #[.bool (decide (sg p (N+M)<0)),.slice A4 n4 c4]:=by rw [hWF];exact K4_r.out.own2
 have hBF:Below w.heap.size w WF:=by rw [hWF];exact Below.set2 HB4.out j0i3
 have hI:IsNat WF (.slice A4 n4 c4) ((sg p (N+M)).natAbs):=by rw [hWF];exact h4.other2 K4_r.out
 have HE:Hid (IntPost w WF (.returned (.agg #[.bool (decide (sg p (N+M)<0)),.slice A4 n4 c4])) (sg p (N+M))):=⟨_,rfl,⟨_,rfl,hI⟩,hBF⟩
 have e0:=kq.cell0
 have e1:=kq.cell1
 clear hWF
 exact bodyPost_ret (v := .agg #[.bool (decide (sg p (N+M)<0)),.slice A4 n4 c4]) jaw6 rfl HE.out
set_option maxRecDepth 100000 in
set_option maxHeartbeats 2000000 in
theorem radd_ge(b b':Bool)(A:Option Addr)(n c N k:Nat)(B:Option Addr)(m d M l:Nat)(w:World)(h:Lim k w (.slice A n c) N)(h':Lim l w (.slice B m d) M)(hk:k≤400000)(hl:l≤400000)(p:Bool)(hp:decide (sg b N<0)=p)(hq:decide (sg b' M<0) = !p)(hle:M≤N) :
 Calls Tryz.prog 65 #[.agg #[.bool b,.slice A n c],.agg #[.bool b',.slice B m d]] w fun e w'=>IntPost w w' e (sg p (N - M)):=by
 have hne:(p == !p)=false:=by cases p <;> rfl
 have hs0:w.heap.size<w.heap.size+1+1+1 := j0i3
 have hs1:w.heap.size+1<w.heap.size+1+1+1 := j0i3
 go_enter Tryz.func65,Tryz.ntmps65
 go_wp2_with fail
 refine Calls.mono (li_rplain (k:=k) (X:=sg b N) (limI_mk jcbb) j0i3) ?_
 rintro e w1 ⟨v1,rfl,⟨m1,rfl,h1⟩,hb1⟩
 rw [sg_abs] at h1;rw [hp];obtain⟨A1,n1,c1,rfl,hn1,h1⟩:=isNat_form h1
 have hz1:w.heap.size+3≤w1.heap.size := j15l
 have k1_a:=Blk.below (g:=w.heap.size) (t:=34) (cs := #[.bool b,.slice A n c]) jcbb hb1
 have p1_a:=k1_a.cell0
 have q1_a:=k1_a.cell1
 have K1_a:=Lib.hid k1_a;clear k1_a
 have k1_b:=Blk.below (g:=w.heap.size+1) (t:=34) (cs := #[.bool b',.slice B m d]) jcbb hb1
 have p1_b:=k1_b.cell0
 have q1_b:=k1_b.cell1
 have K1_b:=Lib.hid k1_b;clear k1_b
 have k1_r:=Blk.below (g:=w.heap.size+1+1) (t:=34) (cs := #[_,_]) jcbb hb1
 have K1_r:=Lib.hid k1_r;clear k1_r
 have HL1:=Lib.hid (show Lim l w1 (.slice B m d) M from jcbb)
 have HB1:=Lib.hid (show Below w.heap.size w w1 from jjrw)
 clear hb1
 have hl1:w.heap.size+1<w1.heap.size := j0i3
 go_wp2_with fail
 refine Calls.mono (li_rplain (k:=l) (X:=sg b' M) (limI_mk jcbb) j0i3) ?_
 rintro e w2 ⟨v2,rfl,⟨m2,rfl,h2⟩,hb2⟩
 rw [sg_abs] at h2;rw [hq];obtain⟨A2,n2,c2,rfl,hn2,h2⟩:=isNat_form h2;have h1:IsNat w2 (.slice A1 n1 c1) N:=(h1.alloc_ (.cells #[.bool p,.slice A1 n1 c1] 34)).below hb2
 have hz2:w1.heap.size+1≤w2.heap.size := jd6e
 have k2_x:=Blk.below (g:=w1.heap.size) (t:=34) (cs := #[.bool p,.slice A1 n1 c1]) jcbb hb2
 have p2_x:=k2_x.cell0
 have q2_x:=k2_x.cell1
 have K2_x:=Lib.hid k2_x;clear k2_x
 have k2_r:=Blk.below (g:=w.heap.size+1+1) (t:=34) (cs := #[_,_]) jcbb hb2
 have K2_r:=Lib.hid k2_r;clear k2_r
 have HB2:=Lib.hid (show Below w.heap.size w w2 from jo8x)
 clear hb2
 have hxy:w1.heap.size<w2.heap.size := j0i3
 have hrx:w.heap.size+1+1<w1.heap.size := j0i3
 have hry:w.heap.size+1+1<w2.heap.size := j0i3
 have hkx:=Lib.hid ((K2_x.out.alloc_ (.cells #[.bool (!p),.slice A2 n2 c2] 34)))
 have hky:=Lib.hid (Blk.new w2 w2.heap.size rfl 34 #[.bool (!p),.slice A2 n2 c2])
 have hx3:=Lib.hid ((h1.lim h.lt).alloc_ (.cells #[.bool (!p),.slice A2 n2 c2] 34))
 have hy3:=Lib.hid ((h2.lim h'.lt).alloc_ (.cells #[.bool (!p),.slice A2 n2 c2] 34))
 go_wp2_with fail
 refine Calls.mono (rCmp (k:=k) (m:=l) (N:=N) (M:=M) hx3.out hy3.out j0i3 j0i3) ?_
 rintro e w3 ⟨rfl,hb3⟩
 have hcm:0≤cmpN N M:=cmpN_ge.1 hle
 generalize cmpN N M=r at *
 have hz3:w2.heap.size+1≤w3.heap.size := jfkf
 have k3_x:=Blk.below (g:=w1.heap.size) (t:=34) (cs := #[.bool p,.slice A1 n1 c1]) jcbb hb3
 have p3_x:=k3_x.cell0
 have q3_x:=k3_x.cell1
 have K3_x:=Lib.hid k3_x;clear k3_x
 have k3_y:=Blk.below (g:=w2.heap.size) (t:=34) (cs := #[.bool (!p),.slice A2 n2 c2]) jcbb hb3
 have p3_y:=k3_y.cell0
 have q3_y:=k3_y.cell1
 have K3_y:=Lib.hid k3_y;clear k3_y
 have k3_r:=Blk.below (g:=w.heap.size+1+1) (t:=34) (cs := #[_,_]) jcbb hb3
 have K3_r:=Lib.hid k3_r;clear k3_r
 have hx3:=Lib.hid (show Lim k w3 (.slice A1 n1 c1) N from jcbb)
 have hy3:=Lib.hid (show Lim l w3 (.slice A2 n2 c2) M from jcbb)
 have HB3:=Lib.hid (show Below w.heap.size w w3 from ju0z)
 clear hb3
 have HN:=Lib.hid (Nat.lt_of_le_of_lt (Nat.sub_le N M) hx3.out.lt)
 go_wp2_with fail
 refine Calls.mono (rSub_yes (k:=k) (m:=l) (N:=N) (M:=M) hx3.out hy3.out j0i3 j0i3 hle) ?_
 rintro e w4 ⟨v4,rfl,h4,hb4⟩
 obtain⟨A4,n4,c4,rfl,hn4,h4⟩:=isNat_form h4
 have hz4:w2.heap.size+1≤w4.heap.size := jto4
 have k4_x:=Blk.below (g:=w1.heap.size) (t:=34) (cs := #[.bool p,.slice A1 n1 c1]) jcbb hb4
 have p4_x:=k4_x.cell0
 have q4_x:=k4_x.cell1
 have K4_x:=Lib.hid k4_x;clear k4_x
 have k4_y:=Blk.below (g:=w2.heap.size) (t:=34) (cs := #[.bool (!p),.slice A2 n2 c2]) jcbb hb4
 have p4_y:=k4_y.cell0
 have q4_y:=k4_y.cell1
 have K4_y:=Lib.hid k4_y;clear k4_y
 have k4_r:=Blk.below (g:=w.heap.size+1+1) (t:=34) (cs := #[_,_]) jcbb hb4
 have K4_r:=Lib.hid k4_r;clear k4_r
 have HB4:=Lib.hid (show Below w.heap.size w w4 from jxp2)
 clear hb4
 have L4:=Lib.hid (h4.lim HN.out)
 go_wp2_with fail
 refine Calls.mono (li_rplain (k:=k) (X:=sg p (N - M)) (limI_mk L4.out) j0i3) ?_
 rintro e w5 ⟨v5,rfl,⟨m5,rfl,h5⟩,hb5⟩
 obtain⟨A5,n5,c5,rfl,hn5,h5⟩:=isNat_form h5
 have hz5:w2.heap.size+1≤w5.heap.size := jwjq
 have k5_r:=Blk.below (g:=w.heap.size+1+1) (t:=34) (cs := #[_,_]) jcbb hb5
 obtain⟨p5_r,q5_r,r5_r,s5_r,t5_r⟩:=k5_r.facts2;clear q5_r
 have K5_r:=Lib.hid k5_r;clear k5_r
 have HB5:=Lib.hid (show Below w.heap.size w w5 from jrnj)
 clear hb5
 go_wp2
 obtain⟨WF,hWF⟩ : ∃W,W=(w5.setCell ⟨w.heap.size+1+1,0,none⟩ (.bool (decide (sg p (N - M)<0)))).setCell ⟨w.heap.size+1+1,1,none⟩ (.slice A5 n5 c5):=⟨_,rfl⟩
 rw [← hWF]
 have kq:Blk WF (w.heap.size+1+1) 34 #[.bool (decide (sg p (N - M)<0)),.slice A5 n5 c5]:=by rw [hWF];exact K5_r.out.own2
 have hBF:Below w.heap.size w WF:=by rw [hWF];exact Below.set2 HB5.out j0i3
 have hI:IsNat WF (.slice A5 n5 c5) ((sg p (N - M)).natAbs):=by rw [hWF];exact h5.other2 K5_r.out
 have HE:Hid (IntPost w WF (.returned (.agg #[.bool (decide (sg p (N - M)<0)),.slice A5 n5 c5])) (sg p (N - M))):=⟨_,rfl,⟨_,rfl,hI⟩,hBF⟩
 have e0:=kq.cell0
 have e1:=kq.cell1
 clear hWF
 exact bodyPost_ret (v := .agg #[.bool (decide (sg p (N - M)<0)),.slice A5 n5 c5]) jaw6 rfl HE.out
set_option maxRecDepth 100000 in
set_option maxHeartbeats 2000000 in
theorem radd_lt(b b':Bool)(A:Option Addr)(n c N k:Nat)(B:Option Addr)(m d M l:Nat)(w:World)(h:Lim k w (.slice A n c) N)(h':Lim l w (.slice B m d) M)(hk:k≤400000)(hl:l≤400000)(p:Bool)(hp:decide (sg b N<0)=p)(hq:decide (sg b' M<0) = !p)(hlt:N<M) :
 Calls Tryz.prog 65 #[.agg #[.bool b,.slice A n c],.agg #[.bool b',.slice B m d]] w fun e w'=>IntPost w w' e (sg (!p) (M - N)):=by
 have hne:(p == !p)=false:=by cases p <;> rfl
 have hs0:w.heap.size<w.heap.size+1+1+1 := j0i3
 have hs1:w.heap.size+1<w.heap.size+1+1+1 := j0i3
 go_enter Tryz.func65,Tryz.ntmps65
 go_wp2_with fail
 refine Calls.mono (li_rplain (k:=k) (X:=sg b N) (limI_mk jcbb) j0i3) ?_
 rintro e w1 ⟨v1,rfl,⟨m1,rfl,h1⟩,hb1⟩
 rw [sg_abs] at h1;rw [hp];obtain⟨A1,n1,c1,rfl,hn1,h1⟩:=isNat_form h1
 have hz1:w.heap.size+3≤w1.heap.size := j15l
 have k1_a:=Blk.below (g:=w.heap.size) (t:=34) (cs := #[.bool b,.slice A n c]) jcbb hb1
 have p1_a:=k1_a.cell0
 have q1_a:=k1_a.cell1
 have K1_a:=Lib.hid k1_a;clear k1_a
 have k1_b:=Blk.below (g:=w.heap.size+1) (t:=34) (cs := #[.bool b',.slice B m d]) jcbb hb1
 have p1_b:=k1_b.cell0
 have q1_b:=k1_b.cell1
 have K1_b:=Lib.hid k1_b;clear k1_b
 have k1_r:=Blk.below (g:=w.heap.size+1+1) (t:=34) (cs := #[_,_]) jcbb hb1
 have K1_r:=Lib.hid k1_r;clear k1_r
 have HL1:=Lib.hid (show Lim l w1 (.slice B m d) M from jcbb)
 have HB1:=Lib.hid (show Below w.heap.size w w1 from jjrw)
 clear hb1
 have hl1:w.heap.size+1<w1.heap.size := j0i3
 go_wp2_with fail
 refine Calls.mono (li_rplain (k:=l) (X:=sg b' M) (limI_mk jcbb) j0i3) ?_
 rintro e w2 ⟨v2,rfl,⟨m2,rfl,h2⟩,hb2⟩
 rw [sg_abs] at h2;rw [hq];obtain⟨A2,n2,c2,rfl,hn2,h2⟩:=isNat_form h2;have h1:IsNat w2 (.slice A1 n1 c1) N:=(h1.alloc_ (.cells #[.bool p,.slice A1 n1 c1] 34)).below hb2
 have hz2:w1.heap.size+1≤w2.heap.size := jd6e
 have k2_x:=Blk.below (g:=w1.heap.size) (t:=34) (cs := #[.bool p,.slice A1 n1 c1]) jcbb hb2
 have p2_x:=k2_x.cell0
 have q2_x:=k2_x.cell1
 have K2_x:=Lib.hid k2_x;clear k2_x
 have k2_r:=Blk.below (g:=w.heap.size+1+1) (t:=34) (cs := #[_,_]) jcbb hb2
 have K2_r:=Lib.hid k2_r;clear k2_r
 have HB2:=Lib.hid (show Below w.heap.size w w2 from jo8x)
 clear hb2
 have hxy:w1.heap.size<w2.heap.size := j0i3
 have hrx:w.heap.size+1+1<w1.heap.size := j0i3
 have hry:w.heap.size+1+1<w2.heap.size := j0i3
 have hkx:=Lib.hid ((K2_x.out.alloc_ (.cells #[.bool (!p),.slice A2 n2 c2] 34)))
 have hky:=Lib.hid (Blk.new w2 w2.heap.size rfl 34 #[.bool (!p),.slice A2 n2 c2])
 have hx3:=Lib.hid ((h1.lim h.lt).alloc_ (.cells #[.bool (!p),.slice A2 n2 c2] 34))
 have hy3:=Lib.hid ((h2.lim h'.lt).alloc_ (.cells #[.bool (!p),.slice A2 n2 c2] 34))
 go_wp2_with fail
 refine Calls.mono (rCmp (k:=k) (m:=l) (N:=N) (M:=M) hx3.out hy3.out j0i3 j0i3) ?_
 rintro e w3 ⟨rfl,hb3⟩
 have hcm:cmpN N M<0:=cmpN_ge.2 hlt
 generalize cmpN N M=r at *
 have hz3:w2.heap.size+1≤w3.heap.size := jfkf
 have k3_x:=Blk.below (g:=w1.heap.size) (t:=34) (cs := #[.bool p,.slice A1 n1 c1]) jcbb hb3
 have p3_x:=k3_x.cell0
 have q3_x:=k3_x.cell1
 have K3_x:=Lib.hid k3_x;clear k3_x
 have k3_y:=Blk.below (g:=w2.heap.size) (t:=34) (cs := #[.bool (!p),.slice A2 n2 c2]) jcbb hb3
 have p3_y:=k3_y.cell0
 have q3_y:=k3_y.cell1
 have K3_y:=Lib.hid k3_y;clear k3_y
 have k3_r:=Blk.below (g:=w.heap.size+1+1) (t:=34) (cs := #[_,_]) jcbb hb3
 have K3_r:=Lib.hid k3_r;clear k3_r
 have hx3:=Lib.hid (show Lim k w3 (.slice A1 n1 c1) N from jcbb)
 have hy3:=Lib.hid (show Lim l w3 (.slice A2 n2 c2) M from jcbb)
 have HB3:=Lib.hid (show Below w.heap.size w w3 from ju0z)
 clear hb3
 have HN:=Lib.hid (Nat.lt_of_le_of_lt (Nat.sub_le M N) hy3.out.lt)
 go_wp2_with fail
 refine Calls.mono (rSub_yes (k:=l) (m:=k) (N:=M) (M:=N) hy3.out hx3.out j0i3 j0i3 (Nat.le_of_lt hlt)) ?_
 rintro e w4 ⟨v4,rfl,h4,hb4⟩
 obtain⟨A4,n4,c4,rfl,hn4,h4⟩:=isNat_form h4
 have hz4:w2.heap.size+1≤w4.heap.size := jto4
 have k4_x:=Blk.below (g:=w1.heap.size) (t:=34) (cs := #[.bool p,.slice A1 n1 c1]) jcbb hb4
 have p4_x:=k4_x.cell0
 have q4_x:=k4_x.cell1
 have K4_x:=Lib.hid k4_x;clear k4_x
 have k4_y:=Blk.below (g:=w2.heap.size) (t:=34) (cs := #[.bool (!p),.slice A2 n2 c2]) jcbb hb4
 have p4_y:=k4_y.cell0
 have q4_y:=k4_y.cell1
 have K4_y:=Lib.hid k4_y;clear k4_y
 have k4_r:=Blk.below (g:=w.heap.size+1+1) (t:=34) (cs := #[_,_]) jcbb hb4
 have K4_r:=Lib.hid k4_r;clear k4_r
 have HB4:=Lib.hid (show Below w.heap.size w w4 from jxp2)
 clear hb4
 have L4:=Lib.hid (h4.lim HN.out)
 go_wp2_with fail
 refine Calls.mono (li_rplain (k:=l) (X:=sg (!p) (M - N)) (limI_mk L4.out) j0i3) ?_
 rintro e w5 ⟨v5,rfl,⟨m5,rfl,h5⟩,hb5⟩
 obtain⟨A5,n5,c5,rfl,hn5,h5⟩:=isNat_form h5
 have hz5:w2.heap.size+1≤w5.heap.size := jwjq
 have k5_r:=Blk.below (g:=w.heap.size+1+1) (t:=34) (cs := #[_,_]) jcbb hb5
 obtain⟨p5_r,q5_r,r5_r,s5_r,t5_r⟩:=k5_r.facts2;clear q5_r
 have K5_r:=Lib.hid k5_r;clear k5_r
 have HB5:=Lib.hid (show Below w.heap.size w w5 from jrnj)
 clear hb5
 go_wp2
 obtain⟨WF,hWF⟩ : ∃W,W=(w5.setCell ⟨w.heap.size+1+1,0,none⟩ (.bool (decide (sg (!p) (M - N)<0)))).setCell ⟨w.heap.size+1+1,1,none⟩ (.slice A5 n5 c5):=⟨_,rfl⟩
 rw [← hWF]
 have kq:Blk WF (w.heap.size+1+1) 34 #[.bool (decide (sg (!p) (M - N)<0)),.slice A5 n5 c5]:=by rw [hWF];exact K5_r.out.own2
 have hBF:Below w.heap.size w WF:=by rw [hWF];exact Below.set2 HB5.out j0i3
 have hI:IsNat WF (.slice A5 n5 c5) ((sg (!p) (M - N)).natAbs):=by rw [hWF];exact h5.other2 K5_r.out
 have HE:Hid (IntPost w WF (.returned (.agg #[.bool (decide (sg (!p) (M - N)<0)),.slice A5 n5 c5])) (sg (!p) (M - N))):=⟨_,rfl,⟨_,rfl,hI⟩,hBF⟩
 have e0:=kq.cell0
 have e1:=kq.cell1
 clear hWF
 exact bodyPost_ret (v := .agg #[.bool (decide (sg (!p) (M - N)<0)),.slice A5 n5 c5]) jaw6 rfl HE.out
theorem sg_dec(b:Bool)(N:Nat):sg (decide (sg b N<0)) N=sg b N:=by
 have:=sg_of (sg b N)
 rwa [sg_abs] at this
theorem li_radd {k l:Nat} {w:World} {v v':Value} {X Y:Int}(h:LimI k w v X)(h':LimI l w v' Y)(hk:k≤400000)(hl:l≤400000):Calls Tryz.prog 65 #[v,v'] w fun e w'=>IntPost w w' e (X+Y):=by
 obtain⟨b,m,N,rfl,⟨A,n,c,f,rfl,hr⟩,rfl⟩:=h
 obtain⟨b',m',M,rfl,⟨B,n',c',f',rfl,hr'⟩,rfl⟩:=h'
 have H:Lim k w (.slice A n c) N:=⟨A,n,c,f,rfl,hr⟩
 have H':Lim l w (.slice B n' c') M:=⟨B,n',c',f',rfl,hr'⟩
 have d1:=sg_dec b N
 have d2:=sg_dec b' M
 cases hp:decide (sg b N<0) <;> cases hq:decide (sg b' M<0) <;> rw [hp] at d1 <;> rw [hq] at d2
 ·rw [← d1,← d2,sg_add]
  exact radd_same b b' A n c N k B n' c' M l w H H' hk hl false hp hq
 ·rw [← d1,← d2]
  by_cases hle:M≤N
  ·have e:=sg_sub_ge false hle
   rw [show sg true M=sg (!false) M from rfl,e]
   exact radd_ge b b' A n c N k B n' c' M l w H H' hk hl false hp hq hle
  ·have e:=sg_sub_lt false (show N<M by omega)
   rw [show sg true M=sg (!false) M from rfl,e]
   exact radd_lt b b' A n c N k B n' c' M l w H H' hk hl false hp hq j0i3
 ·rw [← d1,← d2]
  by_cases hle:M≤N
  ·have e:=sg_sub_ge true hle
   rw [show sg false M=sg (!true) M from rfl,e]
   exact radd_ge b b' A n c N k B n' c' M l w H H' hk hl true hp hq hle
  ·have e:=sg_sub_lt true (show N<M by omega)
   rw [show sg false M=sg (!true) M from rfl,e]
   exact radd_lt b b' A n c N k B n' c' M l w H H' hk hl true hp hq j0i3
 ·rw [← d1,← d2,sg_add]
  exact radd_same b b' A n c N k B n' c' M l w H H' hk hl true hp hq
end Go.Proofs.YtgilnmhejjpleaaGreat
