/- Contracts of the document's own whole numbers: Same, Plain, Mul, Cmp. -/
import Derived.Test.YtgilnmhejjpleaaGreatPWf
import Derived.Lib.Strings
namespace Go.Proofs.YtgilnmhejjpleaaGreat
open Go.RowKit
attribute [local go_sem ↓] Go.wp_at_zero Go.wp_at_succ
theorem limI_mk {k:Nat} {w:World} {m:Value} {b:Bool} {N:Nat}(h:Lim k w m N):LimI k w (.agg #[.bool b,m]) (sg b N):=⟨b,m,N,rfl,h,rfl⟩
set_option maxHeartbeats 1000000 in
theorem isInt_same {k:Nat} {w:World} {v v':Value} {X:Int}(h:IsInt w v X)(h':IsInt w v' X)(hX:X.natAbs<4294967296 ^ k)(hk:k≤1000000) :
 Calls Tryz.prog 47 #[v,v'] w fun e w'=>e = .returned (.bool true)∧Below w.heap.size w w':=by
 obtain⟨m,rfl,h1⟩:=h
 obtain⟨m',rfl,h1'⟩:=h'
 obtain⟨A,n,c,rfl,_,h1⟩:=isNat_form h1
 obtain⟨B,m,d,rfl,_,h1'⟩:=isNat_form h1'
 generalize decide (X<0)=b
 have H1:=Lib.hid h1
 have H2:=Lib.hid h1'
 have HX:=Lib.hid hX
 have hs0:w.heap.size<w.heap.size+1+1 := j0a
 go_enter Tryz.func47,Tryz.ntmps47
 go_wp2_with fail
 refine Calls.mono (isNat_same (k:=k) ((H1.out.alloc_ _).alloc_ _) ((H2.out.alloc_ _).alloc_ _) HX.out hk) ?_
 rintro e w1 ⟨rfl,hb1⟩
 have HB:=Lib.hid (show Below w.heap.size w w1 from jdb)
 clear hb1
 go_wp2
 go_ret
 exact⟨rfl,HB.out⟩
set_option maxHeartbeats 1000000 in
theorem rplain_false(A:Option Addr)(n c N k:Nat)(w:World)(h:Lim k w (.slice A n c) N)(hk:k≤1000000) :
 Calls Tryz.prog 80 #[.agg #[.bool false,.slice A n c]] w fun e w'=>IntPost w w' e (sg false N):=by
 go_enter Tryz.func80,Tryz.ntmps80
 go_wp2_with fail
 refine Calls.mono (lim_rtr (k:=k) (N:=N) jcz hk) ?_
 rintro e w1 ⟨v1,rfl,h1,hb1⟩
 obtain⟨A1,n1,c1,rfl,hn1,h1⟩:=isNat_form h1
 have hz1:w.heap.size+2≤w1.heap.size := jbq
 have k1_0:=Blk.below (g:=w.heap.size) (t:=34) (cs := #[.bool false,.slice A n c]) jcz hb1
 have p1_0:=k1_0.cell0
 have K1_0:=Lib.hid k1_0;clear k1_0
 have k1_1:=Blk.below (g:=w.heap.size+1) (t:=34) (cs := #[_,_]) jcz hb1
 obtain⟨p1_1,q1_1,r1_1,s1_1,t1_1⟩:=k1_1.facts2;clear q1_1
 have K1_1:=Lib.hid k1_1;clear k1_1
 have HB1:=Lib.hid (show Below w.heap.size w w1 from jdb)
 clear hb1
 go_wp2
 obtain⟨WF,hWF⟩ : ∃W,W=(w1.setCell ⟨w.heap.size+1,0,none⟩ (.bool false)).setCell ⟨w.heap.size+1,1,none⟩ (.slice A1 n1 c1):=⟨_,rfl⟩
 rw [← hWF]
 have kq:Blk WF (w.heap.size+1) 34 #[.bool false,.slice A1 n1 c1]:=by rw [hWF];exact K1_1.out.own2
 have hBF:Below w.heap.size w WF:=by rw [hWF];exact Below.set2 HB1.out j0a
 have hI:IsNat WF (.slice A1 n1 c1) (N):=by rw [hWF];exact h1.other2 K1_1.out
 have HE:Hid (IntPost w WF (.returned (.agg #[.bool false,.slice A1 n1 c1])) (sg false N)):=⟨_,rfl,isInt_sg (b:=false) hI,hBF⟩
 have e0:=kq.cell0
 have e1:=kq.cell1
 clear hWF
 exact bodyPost_ret (v := .agg #[.bool false,.slice A1 n1 c1]) (by simp [results,Tryz.results80,go_sem,e0,e1]) rfl HE.out
set_option maxHeartbeats 1000000 in
theorem rplain_true(A:Option Addr)(n c N k:Nat)(w:World)(h:Lim k w (.slice A n c) N)(hk:k≤1000000) :
 Calls Tryz.prog 80 #[.agg #[.bool true,.slice A n c]] w fun e w'=>IntPost w w' e (sg true N):=by
 go_enter Tryz.func80,Tryz.ntmps80
 go_wp2_with fail
 refine Calls.mono (lim_rtr (k:=k) (N:=N) jcz hk) ?_
 rintro e w1 ⟨v1,rfl,h1,hb1⟩
 obtain⟨A1,n1,c1,rfl,hn1,h1⟩:=isNat_form h1
 have hz1:w.heap.size+2≤w1.heap.size := jbq
 have k1_0:=Blk.below (g:=w.heap.size) (t:=34) (cs := #[.bool true,.slice A n c]) jcz hb1
 have p1_0:=k1_0.cell0
 have K1_0:=Lib.hid k1_0;clear k1_0
 have k1_1:=Blk.below (g:=w.heap.size+1) (t:=34) (cs := #[_,_]) jcz hb1
 obtain⟨p1_1,q1_1,r1_1,s1_1,t1_1⟩:=k1_1.facts2;clear q1_1
 have K1_1:=Lib.hid k1_1;clear k1_1
 have HB1:=Lib.hid (show Below w.heap.size w w1 from jdb)
 clear hb1
 have hd:decide (0<n1)=decide (0<N):=by
  by_cases x:0<n1
  ·rw [decide_eq_true x,decide_eq_true (hn1.1 x)]
  ·rw [decide_eq_false x,decide_eq_false (by rw [← hn1];exact x)]
 clear hn1
 generalize hr:decide (0<n1)=r at *
 have HD:=Lib.hid hd
 have hr':decide ((0:Int)<(n1:Int))=r:=by rw [← hr];by_cases x:0<n1 <;> simp [x]
 clear hd
 go_wp2
 obtain⟨WF,hWF⟩ : ∃W,W=(w1.setCell ⟨w.heap.size+1,0,none⟩ (.bool r)).setCell ⟨w.heap.size+1,1,none⟩ (.slice A1 n1 c1):=⟨_,rfl⟩
 rw [← hWF]
 have kq:Blk WF (w.heap.size+1) 34 #[.bool r,.slice A1 n1 c1]:=by rw [hWF];exact K1_1.out.own2
 have hBF:Below w.heap.size w WF:=by rw [hWF];exact Below.set2 HB1.out j0a
 have hI:IsNat WF (.slice A1 n1 c1) (N):=by rw [hWF];exact h1.other2 K1_1.out
 have HE:Hid (IntPost w WF (.returned (.agg #[.bool r,.slice A1 n1 c1])) (sg true N)):=⟨_,rfl,by have:=isInt_sg (b:=true) hI;rw [← HD.out] at this;exact this,hBF⟩
 have e0:=kq.cell0
 have e1:=kq.cell1
 clear hWF
 exact bodyPost_ret (v := .agg #[.bool r,.slice A1 n1 c1]) (by simp [results,Tryz.results80,go_sem,e0,e1]) rfl HE.out
theorem li_rplain {k:Nat} {w:World} {v:Value} {X:Int}(h:LimI k w v X)(hk:k≤1000000):Calls Tryz.prog 80 #[v] w fun e w'=>IntPost w w' e X:=by
 obtain⟨b,m,N,rfl,⟨A,n,c,f,rfl,hr⟩,rfl⟩:=h
 cases b
 ·exact rplain_false A n c N k w ⟨A,n,c,f,rfl,hr⟩ hk
 ·exact rplain_true A n c N k w ⟨A,n,c,f,rfl,hr⟩ hk
end Go.Proofs.YtgilnmhejjpleaaGreat
