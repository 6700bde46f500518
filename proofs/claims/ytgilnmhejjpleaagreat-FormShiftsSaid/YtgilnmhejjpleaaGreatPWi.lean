/- Contracts of the document's own whole numbers: Same, Plain, Mul, Cmp. -/
import Derived.Test.YtgilnmhejjpleaaGreatPWf
import Derived.Lib.Strings
namespace Go.Proofs.YtgilnmhejjpleaaGreat
open Go.RowKit
attribute [local go_sem ↓] Go.wp_at_zero Go.wp_at_succ
theorem jwsu {P:Prop}(h:P:=by rw [hWF]; exact Below.set2 HB1.out j0i3):P:=h
theorem limI_mk {k:Nat} {w:World} {m:Value} {b:Bool} {N:Nat}(h:Lim k w m N):LimI k w (.agg #[.bool b,m]) (sg b N):=⟨b,m,N,rfl,h,rfl⟩
set_option maxHeartbeats 1000000 in
theorem isInt_same {k:Nat} {w:World} {v v':Value} {X:Int}(h:IsInt w v X)(h':IsInt w v' X)(hX:X.natAbs<4294967296 ^ k)(hk:k≤1000000) :
 Calls Tryz.prog 47 #[v,v'] w fun e w'=>e = .returned (.bool true)∧Below w.heap.size w w':=by
 obtain⟨m,rfl,h1⟩:=h
 obtain⟨m',rfl,h1'⟩:=h'
 obtain⟨A,n,c,rfl,_,h1⟩:=isNat_form h1
 obtain⟨B,m,d,rfl,_,h1'⟩:=isNat_form h1'
 generalize decide (X<0)=b
 have H1:=Lib.hid h1
 have H2:=Lib.hid h1'
 have HX:=Lib.hid hX
 have hs0:w.heap.size<w.heap.size+1+1 := j0i3
 go_enter Tryz.func47,Tryz.ntmps47
 go_wp2_with fail
 refine Calls.mono (isNat_same (k:=k) ((H1.out.alloc_ _).alloc_ _) ((H2.out.alloc_ _).alloc_ _) HX.out hk) ?_
 rintro e w1 ⟨rfl,hb1⟩
 have HB:=Lib.hid (show Below w.heap.size w w1 from jjrw)
 clear hb1
 go_wp2
 go_ret
 exact⟨rfl,HB.out⟩
set_option maxHeartbeats 1000000 in
theorem rplain_false(A:Option Addr)(n c N k:Nat)(w:World)(h:Lim k w (.slice A n c) N)(hk:k≤1000000) :
 Calls Tryz.prog 80 #[.agg #[.bool false,.slice A n c]] w fun e w'=>IntPost w w' e (sg false N):=by
 go_enter Tryz.func80,Tryz.ntmps80
 go_wp2_with fail
 refine Calls.mono (lim_rtr (k:=k) (N:=N) jcbb hk) ?_
 rintro e w1 ⟨v1,rfl,h1,hb1⟩
 obtain⟨A1,n1,c1,rfl,hn1,h1⟩:=isNat_form h1
 have hz1:w.heap.size+2≤w1.heap.size := j15l
 have k1_0:=Blk.below (g:=w.heap.size) (t:=34) (cs := #[.bool false,.slice A n c]) jcbb hb1
 have p1_0:=k1_0.cell0
 have K1_0:=Lib.hid k1_0;clear k1_0
 have k1_1:=Blk.below (g:=w.heap.size+1) (t:=34) (cs := #[_,_]) jcbb hb1
 obtain⟨p1_1,q1_1,r1_1,s1_1,t1_1⟩:=k1_1.facts2;clear q1_1
 have K1_1:=Lib.hid k1_1;clear k1_1
 have HB1:=Lib.hid (show Below w.heap.size w w1 from jjrw)
 clear hb1
 go_wp2
 obtain⟨WF,hWF⟩ : ∃W,W=(w1.setCell ⟨w.heap.size+1,0,none⟩ (.bool false)).setCell ⟨w.heap.size+1,1,none⟩ (.slice A1 n1 c1):=⟨_,rfl⟩
 rw [← hWF]
 have kq:Blk WF (w.heap.size+1) 34 #[.bool false,.slice A1 n1 c1]:=by rw [hWF];exact K1_1.out.own2
 have hBF:Below w.heap.size w WF := jwsu
 have hI:IsNat WF (.slice A1 n1 c1) (N):=by rw [hWF];exact h1.other2 K1_1.out
 have HE:Hid (IntPost w WF (.returned (.agg #[.bool false,.slice A1 n1 c1])) (sg false N)):=⟨_,rfl,isInt_sg (b:=false) hI,hBF⟩
 have e0:=kq.cell0
 have e1:=kq.cell1
 clear hWF
 exact bodyPost_ret (v := .agg #[.bool false,.slice A1 n1 c1]) (by simp [results,Tryz.results80,go_sem,e0,e1]) rfl HE.out
set_option maxHeartbeats 1000000 in
theorem rplain_true(A:Option Addr)(n c N k:Nat)(w:World)(h:Lim k w (.slice A n c) N)(hk:k≤1000000) :
 Calls Tryz.prog 80 #[.agg #[.bool true,.slice A n c]] w fun e w'=>IntPost w w' e (sg true N):=by
 go_enter Tryz.func80,Tryz.ntmps80
 go_wp2_with fail
 refine Calls.mono (lim_rtr (k:=k) (N:=N) jcbb hk) ?_
 rintro e w1 ⟨v1,rfl,h1,hb1⟩
 obtain⟨A1,n1,c1,rfl,hn1,h1⟩:=isNat_form h1
 have hz1:w.heap.size+2≤w1.heap.size := j15l
 have k1_0:=Blk.below (g:=w.heap.size) (t:=34) (cs := #[.bool true,.slice A n c]) jcbb hb1
 have p1_0:=k1_0.cell0
 have K1_0:=Lib.hid k1_0;clear k1_0
 have k1_1:=Blk.below (g:=w.heap.size+1) (t:=34) (cs := #[_,_]) jcbb hb1
 obtain⟨p1_1,q1_1,r1_1,s1_1,t1_1⟩:=k1_1.facts2;clear q1_1
 have K1_1:=Lib.hid k1_1;clear k1_1
 have HB1:=Lib.hid (show Below w.heap.size w w1 from jjrw)
 clear hb1
 have hd:decide (0<n1)=decide (0<N):=by
  by_cases x:0<n1
  ·rw [decide_eq_true x,decide_eq_true (hn1.1 x)]
  ·rw [decide_eq_false x,decide_eq_false (by rw [← hn1];exact x)]
 clear hn1
 generalize hr:decide (0<n1)=r at *
 have HD:=Lib.hid hd
 have hr':decide ((0:Int)<(n1:Int))=r:=by rw [← hr];by_cases x:0<n1 <;> simp [x]
 clear hd
 go_wp2
 obtain⟨WF,hWF⟩ : ∃W,W=(w1.setCell ⟨w.heap.size+1,0,none⟩ (.bool r)).setCell ⟨w.heap.size+1,1,none⟩ (.slice A1 n1 c1):=⟨_,rfl⟩
 rw [← hWF]
 have kq:Blk WF (w.heap.size+1) 34 #[.bool r,.slice A1 n1 c1]:=by rw [hWF];exact K1_1.out.own2
 have hBF:Below w.heap.size w WF := jwsu
 have hI:IsNat WF (.slice A1 n1 c1) (N):=by rw [hWF];exact h1.other2 K1_1.out
 have HE:Hid (IntPost w WF (.returned (.agg #[.bool r,.slice A1 n1 c1])) (sg true N)):=⟨_,rfl,by have:=isInt_sg (b:=true) hI;rw [← HD.out] at this;exact this,hBF⟩
 have e0:=kq.cell0
 have e1:=kq.cell1
 clear hWF
 exact bodyPost_ret (v := .agg #[.bool r,.slice A1 n1 c1]) (by simp [results,Tryz.results80,go_sem,e0,e1]) rfl HE.out
theorem li_rplain {k:Nat} {w:World} {v:Value} {X:Int}(h:LimI k w v X)(hk:k≤1000000):Calls Tryz.prog 80 #[v] w fun e w'=>IntPost w w' e X:=by
 obtain⟨b,m,N,rfl,⟨A,n,c,f,rfl,hr⟩,rfl⟩:=h
 cases b
 ·exact rplain_false A n c N k w ⟨A,n,c,f,rfl,hr⟩ hk
 ·exact rplain_true A n c N k w ⟨A,n,c,f,rfl,hr⟩ hk
set_option maxRecDepth 100000 in
set_option maxHeartbeats 1000000 in
theorem rmul_(b b':Bool)(A:Option Addr)(n c N k:Nat)(B:Option Addr)(m d M l:Nat)(w:World)(h:Lim k w (.slice A n c) N)(h':Lim l w (.slice B m d) M)(hk:k≤400000)(hl:l≤400000)(s:Bool)(hs:(b != b')=s) :
 Calls Tryz.prog 82 #[.agg #[.bool b,.slice A n c],.agg #[.bool b',.slice B m d]] w fun e w'=>IntPost w w' e (sg s (N*M)):=by
 have hs':(!b == b')=s:=by rw [← hs];cases b <;> cases b' <;> rfl
 have HN:=Lib.hid (lt_mul h.lt h'.lt (k+l) (Nat.le_refl _))
 go_enter Tryz.func82,Tryz.ntmps82
 go_wp2
 have tok1:True:=trivial
 go_region_held3 (fun w'=>w'.cell? ⟨w.heap.size,0,none⟩=some (.bool b)∧w'.cell? ⟨w.heap.size,1,none⟩=some (.slice A n c)∧w'.cell? ⟨w.heap.size+1,0,none⟩=some (.bool b')∧w'.cell? ⟨w.heap.size+1,1,none⟩=some (.slice B m d)) (refine⟨?_,?_,?_,?_⟩ <;> first | with_reducible assumption | ((with_reducible refine Eq.trans (cell_drew _ _) ?_);with_reducible assumption) | ((repeat rw [cell_far2 _ _ _ _ _ _ j0i3]);with_reducible assumption) | go_keep)
  (first
   |(go_at_call 108;have _t:=tok1;clear _t tok1;((with_reducible refine Calls.mono (rMul (k:=k) (m:=l) (N:=N) (M:=M) jcbb jcbb j0i3 j0i3) ?_));rintro e w1 ⟨v1,rfl,h1,hb1⟩;obtain⟨A1,n1,c1,rfl,hn1,h1⟩:=isNat_form h1;have L1:=h1.lim HN.out;have hz1:w.heap.size+3≤w1.heap.size := j15l;have k1_0:=Blk.below (g:=w.heap.size) (t:=34) (cs := #[.bool b,.slice A n c]) jcbb hb1;have p1_0:=k1_0.cell0;have q1_0:=k1_0.cell1;have K1_0:=Lib.hid k1_0;clear k1_0;have k1_1:=Blk.below (g:=w.heap.size+1) (t:=34) (cs := #[.bool b',.slice B m d]) jcbb hb1;have p1_1:=k1_1.cell0;have q1_1:=k1_1.cell1;have K1_1:=Lib.hid k1_1;clear k1_1;have k1_2:=Blk.below (g:=w.heap.size+1+1) (t:=34) (cs := #[_,_]) jcbb hb1;have K1_2:=Lib.hid k1_2;clear k1_2)
   |(go_at_call 80;((with_reducible refine Calls.mono (li_rplain (k:=k+l) (X:=sg s (N*M)) (limI_mk jcbb) j0i3) ?_));rintro e w2 ⟨v2,rfl,⟨m2,rfl,h2⟩,hb2⟩;obtain⟨A2,n2,c2,rfl,hn2,h2⟩:=isNat_form h2;have hz2:w.heap.size+3≤w2.heap.size := jd6e;have k2_0:=Blk.below (g:=w.heap.size) (t:=34) (cs := #[.bool b,.slice A n c]) jcbb hb2;have p2_0:=k2_0.cell0;have q2_0:=k2_0.cell1;have K2_0:=Lib.hid k2_0;clear k2_0;have k2_1:=Blk.below (g:=w.heap.size+1) (t:=34) (cs := #[.bool b',.slice B m d]) jcbb hb2;have p2_1:=k2_1.cell0;have q2_1:=k2_1.cell1;have K2_1:=Lib.hid k2_1;clear k2_1;have k2_2:=Blk.below (g:=w.heap.size+1+1) (t:=34) (cs := #[_,_]) jcbb hb2;obtain⟨p2_2,q2_2,r2_2,s2_2,t2_2⟩:=k2_2.facts2;clear q2_2;have K2_2:=Lib.hid k2_2;clear k2_2))
 have HB2:=Lib.hid (show Below w.heap.size w w2 from jjrw)
 go_wp2
 obtain⟨WF,hWF⟩ : ∃W,W=(w2.setCell ⟨w.heap.size+1+1,0,none⟩ (.bool (decide (sg s (N*M)<0)))).setCell ⟨w.heap.size+1+1,1,none⟩ (.slice A2 n2 c2):=⟨_,rfl⟩
 rw [← hWF]
 have kq:Blk WF (w.heap.size+1+1) 34 #[.bool (decide (sg s (N*M)<0)),.slice A2 n2 c2]:=by rw [hWF];exact K2_2.out.own2
 have hBF:Below w.heap.size w WF:=by rw [hWF];exact Below.set2 HB2.out j0i3
 have hI:IsNat WF (.slice A2 n2 c2) ((sg s (N*M)).natAbs):=by rw [hWF];exact h2.other2 K2_2.out
 have HE:Hid (IntPost w WF (.returned (.agg #[.bool (decide (sg s (N*M)<0)),.slice A2 n2 c2])) (sg s (N*M))):=⟨_,rfl,⟨_,rfl,hI⟩,hBF⟩
 have e0:=kq.cell0
 have e1:=kq.cell1
 clear hWF
 exact bodyPost_ret (v := .agg #[.bool (decide (sg s (N*M)<0)),.slice A2 n2 c2]) (by simp [results,Tryz.results82,go_sem,e0,e1]) rfl HE.out
theorem li_rmul {k l:Nat} {w:World} {v v':Value} {X Y:Int}(h:LimI k w v X)(h':LimI l w v' Y)(hk:k≤400000)(hl:l≤400000):Calls Tryz.prog 82 #[v,v'] w fun e w'=>IntPost w w' e (X*Y):=by
 obtain⟨b,m,N,rfl,⟨A,n,c,f,rfl,hr⟩,rfl⟩:=h
 obtain⟨b',m',M,rfl,⟨B,n',c',f',rfl,hr'⟩,rfl⟩:=h'
 rw [sg_mul]
 exact rmul_ b b' A n c N k B n' c' M l w ⟨A,n,c,f,rfl,hr⟩ ⟨B,n',c',f',rfl,hr'⟩ j0i3 j0i3 _ rfl
end Go.Proofs.YtgilnmhejjpleaaGreat
