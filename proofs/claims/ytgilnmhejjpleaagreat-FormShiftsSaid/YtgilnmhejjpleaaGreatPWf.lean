/- Contracts of whole: Div. -/
import Derived.Test.YtgilnmhejjpleaaGreatPBlk
namespace Go.Proofs.YtgilnmhejjpleaaGreat
open Go.RowKit
attribute [local go_sem ↓] Go.wp_at_zero Go.wp_at_succ
theorem j15l {P:Prop}(h:P:=by have hz := hb1.size; (try simp at hz); omega):P:=h
theorem jd6e {P:Prop}(h:P:=by have hz := hb2.size; (try simp at hz); omega):P:=h
theorem jfkf {P:Prop}(h:P:=by have hz := hb3.size; (try simp at hz); omega):P:=h
theorem jiib {P:Prop}(h:P:=by with_reducible assumption):P:=h
theorem jntr {P:Prop}(h:P:=by simp [results, Tryz.results123, go_sem, e0, e1, e2, e3]):P:=h
theorem jto4 {P:Prop}(h:P:=by have hz := hb4.size; (try simp at hz); omega):P:=h
theorem jwjq {P:Prop}(h:P:=by have hz := hb5.size; (try simp at hz); omega):P:=h
theorem jcbb {P:Prop}(h:P:=by repeat (first | with_reducible assumption | (with_reducible refine Hid.out ?_; with_reducible assumption) | ((with_reducible refine Blk.new _ _ ?_ _ _) <;> (simp; done)) | (with_reducible apply Blk.drew_) | (with_reducible apply Lim.drew_) | (with_reducible apply IsNat.drew_) | (with_reducible refine Lim.alloc_ ?_ _) | (with_reducible refine IsNat.alloc_ ?_ _) | (with_reducible refine Blk.alloc_ ?_ _) | (with_reducible apply Blk.own2) | (with_reducible refine Blk.other2 ?_ j0i3) | (with_reducible apply IsNat.other2) | (with_reducible refine Blk.below ?_ jiib) | (with_reducible refine Lim.below ?_ jiib) | (with_reducible refine IsNat.below ?_ jiib))):P:=h
theorem jfrq {P:Prop}(h:P:=by rw [hWF]; exact Below.set2 (Below.set2 HBL.out j0i3) j0i3):P:=h
theorem jg2b {P:Prop}(h:P:=by rw [hWF]; exact ((K3_3.out.other2 j0i3).own2)):P:=h
theorem jjrw {P:Prop}(h:P:=by repeat first | exact Below.refl _ _ | (with_reducible refine Below.trans ?_ (Below.mono jiib ?_)) | (with_reducible refine Below.alloc_ ?_ ?_ _) | (with_reducible refine Below.drew ?_) | (with_reducible refine Below.set2 ?_ ?_) | exact Nat.le_refl _ | omega | focus (simp <;> omega)):P:=h
theorem jny9 {P:Prop}(h:P:=by rw [hWF]; exact (h3.other2 K3_2.out).other2 (K3_3.out.other2 j0i3)):P:=h
theorem jon6 {P:Prop}(h:P:=by rw [hWF]; exact (h2'.other2 K3_2.out).other2 (K3_3.out.other2 j0i3)):P:=h
theorem js4m {P:Prop}(h:P:=by rw [hWF]; exact ((K3_2.out.own2).other2 j0i3)):P:=h
theorem IsNat.alloc_ {w:World} {v:Value} {N:Nat}(h:IsNat w v N)(o:Obj):IsNat (w.alloc o) v N:=h.below (below_new w o)
theorem IsNat.drew_ {w:World} {v:Value} {N:Nat}(h:IsNat w v N):IsNat w.drew v N:=h
theorem IsNat.other2 {w:World} {v:Value} {N g:Nat} {t:TypeId} {b0:Bool} {A0:Option Addr} {n0 c0:Nat} {x y:Value}(h:IsNat w v N)(hk:Blk w g t #[.bool b0,.slice A0 n0 c0]):IsNat ((w.setCell ⟨g,0,none⟩ x).setCell ⟨g,1,none⟩ y) v N :=
 h.stored (hk.cell 0) (hk.cell 1) x y
def FDiv(X Y q r:Int):Prop:=q*Y+r=X∧((0≤r∧r<Y)∨(Y<r∧r≤0))
def DivYesI(w w':World)(e:Ending)(X Y:Int):Prop := ∃vq vr q r,e = .returned (.tuple #[vq,vr,.bool true])∧FDiv X Y q r∧IsInt w' vq q∧IsInt w' vr r∧Below w.heap.size w w'
theorem nat_parts(N M:Nat):(N:Int)=(N / M:Nat)*(M:Int)+(N % M:Nat):=by
 have:=Nat.div_add_mod N M
 have e:((M*(N / M)+N % M:Nat):Int)=N:=by rw [this]
 rw [← e,Int.natCast_add,Int.natCast_mul,Int.mul_comm]
theorem fdiv_same(b:Bool) {N M:Nat}(hM:0<M):FDiv (sg b N) (sg b M) (sg false (N / M)) (sg b (N % M)):=by
 have h:=nat_parts N M
 have h2:=Nat.mod_lt N hM
 generalize N / M=q at *
 generalize N % M=r at *
 unfold FDiv sg
 cases b
 ·simp;omega
 ·simp only [if_true,Bool.false_eq_true,if_false]
  refine⟨?_,by omega⟩
  rw [h,Int.mul_neg];omega
theorem fdiv_zero(b:Bool) {N M:Nat}(hM:0<M)(hr:N % M=0):FDiv (sg b N) (sg (!b) M) (sg true (N / M)) (sg (!b) (N % M)):=by
 have h:=nat_parts N M
 rw [hr] at h ⊢
 generalize N / M=q at *
 unfold FDiv sg
 cases b
 ·simp only [if_true,Bool.false_eq_true,if_false,Bool.not_false]
  exact⟨by rw [h,Int.neg_mul_neg];simp,by omega⟩
 ·simp only [if_true,Bool.false_eq_true,if_false,Bool.not_true]
  exact⟨by rw [h,Int.neg_mul];simp,by omega⟩
theorem fdiv_diff(b:Bool) {N M:Nat}(hM:0<M)(hr:0<N % M):FDiv (sg b N) (sg (!b) M) (sg true (N / M+1)) (sg (!b) (M - N % M)):=by
 have h:=nat_parts N M
 have h2:=Nat.mod_lt N hM
 generalize N / M=q at *
 generalize N % M=r at *
 obtain⟨s,rfl⟩ : ∃s,M=s+r:=⟨M - r,by omega⟩
 rw [Nat.add_sub_cancel]
 unfold FDiv sg
 cases b
 ·simp only [if_true,Bool.false_eq_true,if_false,Bool.not_false]
  refine⟨?_,by omega⟩
  rw [h,Int.neg_mul_neg]
  push_cast
  rw [Int.add_mul]
  omega
 ·simp only [if_true,Bool.false_eq_true,if_false,Bool.not_true]
  refine⟨?_,by omega⟩
  rw [h,Int.neg_mul]
  push_cast
  rw [Int.add_mul]
  omega
set_option maxRecDepth 100000 in
set_option maxHeartbeats 1000000 in
theorem wdiv_same(b:Bool)(A:Option Addr)(n c N k:Nat)(B:Option Addr)(m d M l:Nat)(w:World)(h:Lim k w (.slice A n c) N)(h':Lim l w (.slice B m d) M)(hk:k≤1000000)(hl:l≤1000000)(hM:0<M) :
 Calls Tryz.prog 123 #[.agg #[.bool b,.slice A n c],.agg #[.bool b,.slice B m d]] w fun e w'=>DivYesI w w' e (sg b N) (sg (b) M):=by
 go_enter Tryz.func123,Tryz.ntmps123
 go_wp2_with fail
 refine Calls.mono ((lim_div (k:=k) (m:=l) (N:=N) (M:=M) jcbb jcbb hk hl).mono fun e w' h=>h.yes hM) ?_
 rintro e w1 ⟨v1,u1,rfl,h1,g1,hb1⟩
 obtain⟨A1,n1,c1,rfl,hn1,h1⟩:=isNat_form h1
 obtain⟨D1,p1,q1,rfl,hp1,g1⟩:=isNat_form g1
 have hz1:w.heap.size+4≤w1.heap.size := j15l
 have k1_0:=Blk.below (g:=w.heap.size) (t:=34) (cs := #[.bool b,.slice A n c]) jcbb hb1
 have p1_0:=k1_0.cell0
 have K1_0:=Lib.hid k1_0;clear k1_0
 have k1_1:=Blk.below (g:=w.heap.size+1) (t:=34) (cs := #[.bool b,.slice B m d]) jcbb hb1
 have p1_1:=k1_1.cell0
 have K1_1:=Lib.hid k1_1;clear k1_1
 have k1_2:=Blk.below (g:=w.heap.size+1+1) (t:=34) (cs := #[_,_]) jcbb hb1
 have K1_2:=Lib.hid k1_2;clear k1_2
 have k1_3:=Blk.below (g:=w.heap.size+1+1+1) (t:=34) (cs := #[_,_]) jcbb hb1
 have K1_3:=Lib.hid k1_3;clear k1_3
 have HB1:=Lib.hid (show Below w.heap.size w w1 from jjrw)
 clear hb1
 have HF:=Lib.hid (fdiv_same b (N:=N) hM)
 go_wp2
 have tok1:True:=trivial
 go_region_held3 (fun w'=>w'.cell? ⟨w.heap.size,0,none⟩=some (.bool b)∧w'.cell? ⟨w.heap.size+1,0,none⟩=some (.bool b)) (refine⟨?_,?_⟩ <;> first | with_reducible assumption | ((with_reducible refine Eq.trans (cell_drew _ _) ?_);with_reducible assumption) | ((repeat rw [cell_far2 _ _ _ _ _ _ j0i3]);with_reducible assumption))
  (first
   |(go_at_call 101;have _t:=tok1;clear _t tok1;(with_reducible refine Calls.mono (signed_any _ A1 n1 c1 _ _ jcbb hn1) ?_);rintro e w2 ⟨v2,rfl,⟨m2,rfl,h2⟩,hb2⟩;obtain⟨A2,n2,c2,rfl,hn2,h2⟩:=isNat_form h2;have hz2:w.heap.size+4≤w2.heap.size := jd6e;have k2_0:=Blk.below (g:=w.heap.size) (t:=34) (cs := #[.bool b,.slice A n c]) jcbb hb2;have p2_0:=k2_0.cell0;have K2_0:=Lib.hid k2_0;clear k2_0;have k2_1:=Blk.below (g:=w.heap.size+1) (t:=34) (cs := #[.bool b,.slice B m d]) jcbb hb2;have p2_1:=k2_1.cell0;have K2_1:=Lib.hid k2_1;clear k2_1;have k2_2:=Blk.below (g:=w.heap.size+1+1) (t:=34) (cs := #[_,_]) jcbb hb2;obtain⟨p2_2,q2_2,r2_2,s2_2,t2_2⟩:=k2_2.facts2;clear q2_2;have K2_2:=Lib.hid k2_2;clear k2_2;have k2_3:=Blk.below (g:=w.heap.size+1+1+1) (t:=34) (cs := #[_,_]) jcbb hb2;obtain⟨p2_3,q2_3,r2_3,s2_3,t2_3⟩:=k2_3.facts2;clear q2_3;have K2_3:=Lib.hid k2_3;clear k2_3)
   |(go_at_call 101;(with_reducible refine Calls.mono (signed_any _ D1 p1 q1 _ _ jcbb hp1) ?_);rintro e w3 ⟨v3,rfl,⟨m3,rfl,h3⟩,hb3⟩;obtain⟨A3,n3,c3,rfl,hn3,h3⟩:=isNat_form h3;have hz3:w.heap.size+4≤w3.heap.size := jfkf;have k3_0:=Blk.below (g:=w.heap.size) (t:=34) (cs := #[.bool b,.slice A n c]) jcbb hb3;have p3_0:=k3_0.cell0;have K3_0:=Lib.hid k3_0;clear k3_0;have k3_1:=Blk.below (g:=w.heap.size+1) (t:=34) (cs := #[.bool b,.slice B m d]) jcbb hb3;have p3_1:=k3_1.cell0;have K3_1:=Lib.hid k3_1;clear k3_1;have k3_2:=Blk.below (g:=w.heap.size+1+1) (t:=34) (cs := #[_,_]) jcbb hb3;obtain⟨p3_2,q3_2,r3_2,s3_2,t3_2⟩:=k3_2.facts2;clear q3_2;have K3_2:=Lib.hid k3_2;clear k3_2;have k3_3:=Blk.below (g:=w.heap.size+1+1+1) (t:=34) (cs := #[_,_]) jcbb hb3;obtain⟨p3_3,q3_3,r3_3,s3_3,t3_3⟩:=k3_3.facts2;clear q3_3;have K3_3:=Lib.hid k3_3;clear k3_3;have u0:=fun x y=>(K3_3.out.other2 (g':=w.heap.size+1+1) (a:=x) (b:=y) j0i3).cell0;have u1:=fun x y=>(K3_3.out.other2 (g':=w.heap.size+1+1) (a:=x) (b:=y) j0i3).facts2.2.2.2.2))
 have HBL:=Lib.hid (show Below w.heap.size w w3 from(HB1.out.drew.trans (hb2.mono (by simp;have:=HB1.out.size;omega))).trans (hb3.mono j0i3))
 have h2':=h2.below hb3
 obtain⟨WF,hWF⟩ : ∃W,W=((((w3.setCell ⟨w.heap.size+1+1,0,none⟩ (.bool (decide (sg false (N / M)<0)))).setCell ⟨w.heap.size+1+1,1,none⟩ (.slice A2 n2 c2)).setCell ⟨w.heap.size+1+1+1,0,none⟩ (.bool (decide (sg b (N % M)<0)))).setCell ⟨w.heap.size+1+1+1,1,none⟩ (.slice A3 n3 c3)):=⟨_,rfl⟩
 rw [← hWF]
 have kq:Blk WF (w.heap.size+1+1) 34 #[.bool (decide (sg false (N / M)<0)),.slice A2 n2 c2] := js4m
 have kr:Blk WF (w.heap.size+1+1+1) 34 #[.bool (decide (sg b (N % M)<0)),.slice A3 n3 c3] := jg2b
 have hq:IsNat WF (.slice A2 n2 c2) (sg false (N / M)).natAbs := jon6
 have hr0:IsNat WF (.slice A3 n3 c3) (sg b (N % M)).natAbs := jny9
 have hBF:Below w.heap.size w WF := jfrq
 have HE:Hid (DivYesI w WF (.returned (.tuple #[.agg #[.bool (decide (sg false (N / M)<0)),.slice A2 n2 c2],.agg #[.bool (decide (sg b (N % M)<0)),.slice A3 n3 c3],.bool true])) (sg b N) (sg (b) M)) :=
  ⟨_,_,_,_,rfl,HF.out,⟨_,rfl,hq⟩,⟨_,rfl,hr0⟩,hBF⟩
 have e0:=kq.cell0
 have e1:=kq.cell1
 have e2:=kr.cell0
 have e3:=kr.cell1
 clear hWF
 go_wp2
 exact bodyPost_ret (v := .tuple #[.agg #[.bool (decide (sg false (N / M)<0)),.slice A2 n2 c2],.agg #[.bool (decide (sg b (N % M)<0)),.slice A3 n3 c3],.bool true]) jntr rfl HE.out
set_option maxRecDepth 100000 in
set_option maxHeartbeats 1000000 in
theorem wdiv_zero(b:Bool)(A:Option Addr)(n c N k:Nat)(B:Option Addr)(m d M l:Nat)(w:World)(h:Lim k w (.slice A n c) N)(h':Lim l w (.slice B m d) M)(hk:k≤1000000)(hl:l≤1000000)(hM:0<M)(hr:N % M=0) :
 Calls Tryz.prog 123 #[.agg #[.bool b,.slice A n c],.agg #[.bool !b,.slice B m d]] w fun e w'=>DivYesI w w' e (sg b N) (sg (!b) M):=by
 have hne:(b == !b)=false := jzab
 go_enter Tryz.func123,Tryz.ntmps123
 go_wp2_with fail
 refine Calls.mono ((lim_div (k:=k) (m:=l) (N:=N) (M:=M) jcbb jcbb hk hl).mono fun e w' h=>h.yes hM) ?_
 rintro e w1 ⟨v1,u1,rfl,h1,g1,hb1⟩
 obtain⟨A1,n1,c1,rfl,hn1,h1⟩:=isNat_form h1
 obtain⟨D1,p1,q1,rfl,hp1,g1⟩:=isNat_form g1
 have hz1:w.heap.size+4≤w1.heap.size := j15l
 have k1_0:=Blk.below (g:=w.heap.size) (t:=34) (cs := #[.bool b,.slice A n c]) jcbb hb1
 have p1_0:=k1_0.cell0
 have K1_0:=Lib.hid k1_0;clear k1_0
 have k1_1:=Blk.below (g:=w.heap.size+1) (t:=34) (cs := #[.bool !b,.slice B m d]) jcbb hb1
 have p1_1:=k1_1.cell0
 have K1_1:=Lib.hid k1_1;clear k1_1
 have k1_2:=Blk.below (g:=w.heap.size+1+1) (t:=34) (cs := #[_,_]) jcbb hb1
 have K1_2:=Lib.hid k1_2;clear k1_2
 have k1_3:=Blk.below (g:=w.heap.size+1+1+1) (t:=34) (cs := #[_,_]) jcbb hb1
 have K1_3:=Lib.hid k1_3;clear k1_3
 have HB1:=Lib.hid (show Below w.heap.size w w1 from jjrw)
 clear hb1
 obtain rfl:p1=0:=by have:=hp1.1;omega
 have HF:=Lib.hid (fdiv_zero b hM hr)
 clear hr
 go_wp2
 have tok1:True:=trivial
 go_region_held3 (fun w'=>w'.cell? ⟨w.heap.size,0,none⟩=some (.bool b)∧w'.cell? ⟨w.heap.size+1,0,none⟩=some (.bool !b)) (refine⟨?_,?_⟩ <;> first | with_reducible assumption | ((with_reducible refine Eq.trans (cell_drew _ _) ?_);with_reducible assumption) | ((repeat rw [cell_far2 _ _ _ _ _ _ j0i3]);with_reducible assumption))
  (first
   |(go_at_call 101;have _t:=tok1;clear _t tok1;(with_reducible refine Calls.mono (signed_any _ A1 n1 c1 _ _ jcbb hn1) ?_);rintro e w2 ⟨v2,rfl,⟨m2,rfl,h2⟩,hb2⟩;obtain⟨A2,n2,c2,rfl,hn2,h2⟩:=isNat_form h2;have hz2:w.heap.size+4≤w2.heap.size := jd6e;have k2_0:=Blk.below (g:=w.heap.size) (t:=34) (cs := #[.bool b,.slice A n c]) jcbb hb2;have p2_0:=k2_0.cell0;have K2_0:=Lib.hid k2_0;clear k2_0;have k2_1:=Blk.below (g:=w.heap.size+1) (t:=34) (cs := #[.bool !b,.slice B m d]) jcbb hb2;have p2_1:=k2_1.cell0;have K2_1:=Lib.hid k2_1;clear k2_1;have k2_2:=Blk.below (g:=w.heap.size+1+1) (t:=34) (cs := #[_,_]) jcbb hb2;obtain⟨p2_2,q2_2,r2_2,s2_2,t2_2⟩:=k2_2.facts2;clear q2_2;have K2_2:=Lib.hid k2_2;clear k2_2;have k2_3:=Blk.below (g:=w.heap.size+1+1+1) (t:=34) (cs := #[_,_]) jcbb hb2;obtain⟨p2_3,q2_3,r2_3,s2_3,t2_3⟩:=k2_3.facts2;clear q2_3;have K2_3:=Lib.hid k2_3;clear k2_3)
   |(go_at_call 101;(with_reducible refine Calls.mono (signed_any _ D1 0 q1 _ _ jcbb hp1) ?_);rintro e w3 ⟨v3,rfl,⟨m3,rfl,h3⟩,hb3⟩;obtain⟨A3,n3,c3,rfl,hn3,h3⟩:=isNat_form h3;have hz3:w.heap.size+4≤w3.heap.size := jfkf;have k3_0:=Blk.below (g:=w.heap.size) (t:=34) (cs := #[.bool b,.slice A n c]) jcbb hb3;have p3_0:=k3_0.cell0;have K3_0:=Lib.hid k3_0;clear k3_0;have k3_1:=Blk.below (g:=w.heap.size+1) (t:=34) (cs := #[.bool !b,.slice B m d]) jcbb hb3;have p3_1:=k3_1.cell0;have K3_1:=Lib.hid k3_1;clear k3_1;have k3_2:=Blk.below (g:=w.heap.size+1+1) (t:=34) (cs := #[_,_]) jcbb hb3;obtain⟨p3_2,q3_2,r3_2,s3_2,t3_2⟩:=k3_2.facts2;clear q3_2;have K3_2:=Lib.hid k3_2;clear k3_2;have k3_3:=Blk.below (g:=w.heap.size+1+1+1) (t:=34) (cs := #[_,_]) jcbb hb3;obtain⟨p3_3,q3_3,r3_3,s3_3,t3_3⟩:=k3_3.facts2;clear q3_3;have K3_3:=Lib.hid k3_3;clear k3_3;have u0:=fun x y=>(K3_3.out.other2 (g':=w.heap.size+1+1) (a:=x) (b:=y) j0i3).cell0;have u1:=fun x y=>(K3_3.out.other2 (g':=w.heap.size+1+1) (a:=x) (b:=y) j0i3).facts2.2.2.2.2))
 have HBL:=Lib.hid (show Below w.heap.size w w3 from(HB1.out.drew.trans (hb2.mono (by simp;have:=HB1.out.size;omega))).trans (hb3.mono j0i3))
 have h2':=h2.below hb3
 obtain⟨WF,hWF⟩ : ∃W,W=((((w3.setCell ⟨w.heap.size+1+1,0,none⟩ (.bool (decide (sg true (N / M)<0)))).setCell ⟨w.heap.size+1+1,1,none⟩ (.slice A2 n2 c2)).setCell ⟨w.heap.size+1+1+1,0,none⟩ (.bool (decide (sg (!b) (N % M)<0)))).setCell ⟨w.heap.size+1+1+1,1,none⟩ (.slice A3 n3 c3)):=⟨_,rfl⟩
 rw [← hWF]
 have kq:Blk WF (w.heap.size+1+1) 34 #[.bool (decide (sg true (N / M)<0)),.slice A2 n2 c2] := js4m
 have kr:Blk WF (w.heap.size+1+1+1) 34 #[.bool (decide (sg (!b) (N % M)<0)),.slice A3 n3 c3] := jg2b
 have hq:IsNat WF (.slice A2 n2 c2) (sg true (N / M)).natAbs := jon6
 have hr0:IsNat WF (.slice A3 n3 c3) (sg (!b) (N % M)).natAbs := jny9
 have hBF:Below w.heap.size w WF := jfrq
 have HE:Hid (DivYesI w WF (.returned (.tuple #[.agg #[.bool (decide (sg true (N / M)<0)),.slice A2 n2 c2],.agg #[.bool (decide (sg (!b) (N % M)<0)),.slice A3 n3 c3],.bool true])) (sg b N) (sg (!b) M)) :=
  ⟨_,_,_,_,rfl,HF.out,⟨_,rfl,hq⟩,⟨_,rfl,hr0⟩,hBF⟩
 have e0:=kq.cell0
 have e1:=kq.cell1
 have e2:=kr.cell0
 have e3:=kr.cell1
 clear hWF
 go_wp2
 exact bodyPost_ret (v := .tuple #[.agg #[.bool (decide (sg true (N / M)<0)),.slice A2 n2 c2],.agg #[.bool (decide (sg (!b) (N % M)<0)),.slice A3 n3 c3],.bool true]) jntr rfl HE.out
set_option maxRecDepth 100000 in
set_option maxHeartbeats 1000000 in
theorem wdiv_diff(b:Bool)(A:Option Addr)(n c N k:Nat)(B:Option Addr)(m d M l:Nat)(w:World)(h:Lim k w (.slice A n c) N)(h':Lim l w (.slice B m d) M)(hk:k≤1000000)(hl:l≤1000000)(hM:0<M)(hr:0<N % M) :
 Calls Tryz.prog 123 #[.agg #[.bool b,.slice A n c],.agg #[.bool !b,.slice B m d]] w fun e w'=>DivYesI w w' e (sg b N) (sg (!b) M):=by
 have hne:(b == !b)=false := jzab
 go_enter Tryz.func123,Tryz.ntmps123
 go_wp2_with fail
 refine Calls.mono ((lim_div (k:=k) (m:=l) (N:=N) (M:=M) jcbb jcbb hk hl).mono fun e w' h=>h.yes hM) ?_
 rintro e w1 ⟨v1,u1,rfl,h1,g1,hb1⟩
 obtain⟨A1,n1,c1,rfl,hn1,h1⟩:=isNat_form h1
 obtain⟨D1,p1,q1,rfl,hp1,g1⟩:=isNat_form g1
 have hz1:w.heap.size+4≤w1.heap.size := j15l
 have k1_0:=Blk.below (g:=w.heap.size) (t:=34) (cs := #[.bool b,.slice A n c]) jcbb hb1
 have p1_0:=k1_0.cell0
 have K1_0:=Lib.hid k1_0;clear k1_0
 have k1_1:=Blk.below (g:=w.heap.size+1) (t:=34) (cs := #[.bool !b,.slice B m d]) jcbb hb1
 have p1_1:=k1_1.cell0
 have K1_1:=Lib.hid k1_1;clear k1_1
 have k1_2:=Blk.below (g:=w.heap.size+1+1) (t:=34) (cs := #[_,_]) jcbb hb1
 have K1_2:=Lib.hid k1_2;clear k1_2
 have k1_3:=Blk.below (g:=w.heap.size+1+1+1) (t:=34) (cs := #[_,_]) jcbb hb1
 have K1_3:=Lib.hid k1_3;clear k1_3
 have HB1:=Lib.hid (show Below w.heap.size w w1 from jjrw)
 clear hb1
 have hgt:(0:Int)<(p1:Int):=by have:=hp1.2 hr;omega
 have HF:=Lib.hid (fdiv_diff b hM hr)
 have HQ:=Lib.hid (h1.lim (k:=k) (Nat.lt_of_le_of_lt (Nat.div_le_self N M) h.lt))
 have HR:=Lib.hid (g1.lim (k:=l) (Nat.lt_trans (Nat.mod_lt N hM) h'.lt))
 have HL:=Lib.hid (h'.below HB1.out)
 go_wp2_with fail
 refine Calls.mono (lim_add (k:=k) (m:=1) (N:=N / M) (M:=1) jcbb (lit_one _ _ rfl 1 _ rfl j0i3) hk j0i3) ?_
 rintro e w4 ⟨v4,rfl,h4,hb4⟩
 obtain⟨A4,n4,c4,rfl,hn4,h4⟩:=isNat_form h4
 have hz4:w.heap.size+4≤w4.heap.size := jto4
 have k4_0:=Blk.below (g:=w.heap.size) (t:=34) (cs := #[.bool b,.slice A n c]) jcbb hb4
 have p4_0:=k4_0.cell0
 have K4_0:=Lib.hid k4_0;clear k4_0
 have k4_1:=Blk.below (g:=w.heap.size+1) (t:=34) (cs := #[.bool !b,.slice B m d]) jcbb hb4
 have p4_1:=k4_1.cell0
 have q4_1:=k4_1.cell1
 have K4_1:=Lib.hid k4_1;clear k4_1
 have k4_2:=Blk.below (g:=w.heap.size+1+1) (t:=34) (cs := #[_,_]) jcbb hb4
 have K4_2:=Lib.hid k4_2;clear k4_2
 have k4_3:=Blk.below (g:=w.heap.size+1+1+1) (t:=34) (cs := #[_,_]) jcbb hb4
 have K4_3:=Lib.hid k4_3;clear k4_3
 have HR4:=Lib.hid (show Lim l w4 (.slice D1 p1 q1) (N % M) from jcbb)
 have HL4:=Lib.hid (show Lim l w4 (.slice B m d) M from jcbb)
 have HB4:=Lib.hid (show Below w.heap.size w w4 from HB1.out.trans ((below_new w1 _).trans (hb4.mono jupy) |>.mono j0i3))
 clear hb4 HB1
 go_wp2_with fail
 refine Calls.mono ((lim_sub (k:=l) (m:=l) (N:=M) (M:=N % M) HL4.out HR4.out hl hl).mono fun e w' h=>h.yes (Nat.le_of_lt (Nat.mod_lt N hM))) ?_
 rintro e w5 ⟨v5,rfl,h5,hb5⟩
 obtain⟨A5,n5,c5,rfl,hn5,h5⟩:=isNat_form h5
 have hz5:w.heap.size+4≤w5.heap.size := jwjq
 have k5_0:=Blk.below (g:=w.heap.size) (t:=34) (cs := #[.bool b,.slice A n c]) jcbb hb5
 have p5_0:=k5_0.cell0
 have K5_0:=Lib.hid k5_0;clear k5_0
 have k5_1:=Blk.below (g:=w.heap.size+1) (t:=34) (cs := #[.bool !b,.slice B m d]) jcbb hb5
 have p5_1:=k5_1.cell0
 have K5_1:=Lib.hid k5_1;clear k5_1
 have k5_2:=Blk.below (g:=w.heap.size+1+1) (t:=34) (cs := #[_,_]) jcbb hb5
 have K5_2:=Lib.hid k5_2;clear k5_2
 have k5_3:=Blk.below (g:=w.heap.size+1+1+1) (t:=34) (cs := #[_,_]) jcbb hb5
 have K5_3:=Lib.hid k5_3;clear k5_3
 have h4':=h4.below hb5
 have HB5:=Lib.hid (below_trans_ HB4.out hb5:Below w.heap.size w w5)
 clear hb5 HB4
 go_wp2
 have tok1:True:=trivial
 go_region_held3 (fun w'=>w'.cell? ⟨w.heap.size,0,none⟩=some (.bool b)∧w'.cell? ⟨w.heap.size+1,0,none⟩=some (.bool !b)) (refine⟨?_,?_⟩ <;> first | with_reducible assumption | ((with_reducible refine Eq.trans (cell_drew _ _) ?_);with_reducible assumption) | ((repeat rw [cell_far2 _ _ _ _ _ _ j0i3]);with_reducible assumption))
  (first
   |(go_at_call 101;have _t:=tok1;clear _t tok1;(with_reducible refine Calls.mono (signed_any _ A4 n4 c4 _ _ jcbb hn4) ?_);rintro e w2 ⟨v2,rfl,⟨m2,rfl,h2⟩,hb2⟩;obtain⟨A2,n2,c2,rfl,hn2,h2⟩:=isNat_form h2;have hz2:w.heap.size+4≤w2.heap.size := jd6e;have k2_0:=Blk.below (g:=w.heap.size) (t:=34) (cs := #[.bool b,.slice A n c]) jcbb hb2;have p2_0:=k2_0.cell0;have K2_0:=Lib.hid k2_0;clear k2_0;have k2_1:=Blk.below (g:=w.heap.size+1) (t:=34) (cs := #[.bool !b,.slice B m d]) jcbb hb2;have p2_1:=k2_1.cell0;have K2_1:=Lib.hid k2_1;clear k2_1;have k2_2:=Blk.below (g:=w.heap.size+1+1) (t:=34) (cs := #[_,_]) jcbb hb2;obtain⟨p2_2,q2_2,r2_2,s2_2,t2_2⟩:=k2_2.facts2;clear q2_2;have K2_2:=Lib.hid k2_2;clear k2_2;have k2_3:=Blk.below (g:=w.heap.size+1+1+1) (t:=34) (cs := #[_,_]) jcbb hb2;obtain⟨p2_3,q2_3,r2_3,s2_3,t2_3⟩:=k2_3.facts2;clear q2_3;have K2_3:=Lib.hid k2_3;clear k2_3)
   |(go_at_call 101;(with_reducible refine Calls.mono (signed_any _ A5 n5 c5 _ _ jcbb hn5) ?_);rintro e w3 ⟨v3,rfl,⟨m3,rfl,h3⟩,hb3⟩;obtain⟨A3,n3,c3,rfl,hn3,h3⟩:=isNat_form h3;have hz3:w.heap.size+4≤w3.heap.size := jfkf;have k3_0:=Blk.below (g:=w.heap.size) (t:=34) (cs := #[.bool b,.slice A n c]) jcbb hb3;have p3_0:=k3_0.cell0;have K3_0:=Lib.hid k3_0;clear k3_0;have k3_1:=Blk.below (g:=w.heap.size+1) (t:=34) (cs := #[.bool !b,.slice B m d]) jcbb hb3;have p3_1:=k3_1.cell0;have K3_1:=Lib.hid k3_1;clear k3_1;have k3_2:=Blk.below (g:=w.heap.size+1+1) (t:=34) (cs := #[_,_]) jcbb hb3;obtain⟨p3_2,q3_2,r3_2,s3_2,t3_2⟩:=k3_2.facts2;clear q3_2;have K3_2:=Lib.hid k3_2;clear k3_2;have k3_3:=Blk.below (g:=w.heap.size+1+1+1) (t:=34) (cs := #[_,_]) jcbb hb3;obtain⟨p3_3,q3_3,r3_3,s3_3,t3_3⟩:=k3_3.facts2;clear q3_3;have K3_3:=Lib.hid k3_3;clear k3_3;have u0:=fun x y=>(K3_3.out.other2 (g':=w.heap.size+1+1) (a:=x) (b:=y) j0i3).cell0;have u1:=fun x y=>(K3_3.out.other2 (g':=w.heap.size+1+1) (a:=x) (b:=y) j0i3).facts2.2.2.2.2))
 have HBL:=Lib.hid (show Below w.heap.size w w3 from(HB5.out.drew.trans (hb2.mono (by simp;have:=HB5.out.size;omega))).trans (hb3.mono j0i3))
 have h2':=h2.below hb3
 obtain⟨WF,hWF⟩ : ∃W,W=((((w3.setCell ⟨w.heap.size+1+1,0,none⟩ (.bool (decide (sg true (N / M+1)<0)))).setCell ⟨w.heap.size+1+1,1,none⟩ (.slice A2 n2 c2)).setCell ⟨w.heap.size+1+1+1,0,none⟩ (.bool (decide (sg (!b) ((M - N % M))<0)))).setCell ⟨w.heap.size+1+1+1,1,none⟩ (.slice A3 n3 c3)):=⟨_,rfl⟩
 rw [← hWF]
 have kq:Blk WF (w.heap.size+1+1) 34 #[.bool (decide (sg true (N / M+1)<0)),.slice A2 n2 c2] := js4m
 have kr:Blk WF (w.heap.size+1+1+1) 34 #[.bool (decide (sg (!b) ((M - N % M))<0)),.slice A3 n3 c3] := jg2b
 have hq:IsNat WF (.slice A2 n2 c2) (sg true (N / M+1)).natAbs := jon6
 have hr0:IsNat WF (.slice A3 n3 c3) (sg (!b) ((M - N % M))).natAbs := jny9
 have hBF:Below w.heap.size w WF := jfrq
 have HE:Hid (DivYesI w WF (.returned (.tuple #[.agg #[.bool (decide (sg true (N / M+1)<0)),.slice A2 n2 c2],.agg #[.bool (decide (sg (!b) ((M - N % M))<0)),.slice A3 n3 c3],.bool true])) (sg b N) (sg (!b) M)) :=
  ⟨_,_,_,_,rfl,HF.out,⟨_,rfl,hq⟩,⟨_,rfl,hr0⟩,hBF⟩
 have e0:=kq.cell0
 have e1:=kq.cell1
 have e2:=kr.cell0
 have e3:=kr.cell1
 clear hWF
 go_wp2
 exact bodyPost_ret (v := .tuple #[.agg #[.bool (decide (sg true (N / M+1)<0)),.slice A2 n2 c2],.agg #[.bool (decide (sg (!b) ((M - N % M))<0)),.slice A3 n3 c3],.bool true]) jntr rfl HE.out
theorem sg_zero(b:Bool)(N:Nat):sg b N=0↔N=0:=by unfold sg;cases b <;> simp
theorem li_div {k l:Nat} {w:World} {v v':Value} {X Y:Int}(h:LimI k w v X)(h':LimI l w v' Y)(hk:k≤1000000)(hl:l≤1000000)(hY:Y≠0):Calls Tryz.prog 123 #[v,v'] w fun e w'=>DivYesI w w' e X Y:=by
 obtain⟨b,m,N,rfl,⟨A,n,c,f,rfl,hr⟩,rfl⟩:=h
 obtain⟨b',m',M,rfl,⟨B,n',c',f',rfl,hr'⟩,rfl⟩:=h'
 have hM:0<M:=Nat.pos_of_ne_zero fun e=>hY ((sg_zero b' M).2 e)
 by_cases hb:b=b'
 ·subst hb
  exact wdiv_same b A n c N k B n' c' M l w ⟨A,n,c,f,rfl,hr⟩ ⟨B,n',c',f',rfl,hr'⟩ hk hl hM
 ·obtain rfl:b' = !b:=by cases b <;> cases b' <;> simp_all
  by_cases h0:N % M=0
  ·exact wdiv_zero b A n c N k B n' c' M l w ⟨A,n,c,f,rfl,hr⟩ ⟨B,n',c',f',rfl,hr'⟩ hk hl hM h0
  ·exact wdiv_diff b A n c N k B n' c' M l w ⟨A,n,c,f,rfl,hr⟩ ⟨B,n',c',f',rfl,hr'⟩ hk hl hM j0i3
theorem FDiv.uniq {X Y q r q' r':Int}(h:FDiv X Y q r)(h':FDiv X Y q' r'):q=q'∧r=r':=by
 obtain⟨h1,h2⟩:=h
 obtain⟨h3,h4⟩:=h'
 have e:(q - q')*Y=r' - r:=by rw [Int.sub_mul];omega
 have hq:q - q'=0:=by
  rcases Int.lt_trichotomy (q - q') 0 with hlt | h0 | hgt
  ·exfalso
   obtain⟨p,hp⟩ : ∃p:Int,q - q' = -1 - p:=⟨-1 - (q - q'),by omega⟩
   rw [hp] at e hlt
   have hp0:0≤p := j0i3
   rw [Int.sub_mul,Int.neg_mul,Int.one_mul] at e
   by_cases hY:0≤Y
   ·have:=Int.mul_nonneg hp0 hY;omega
   ·have:=Int.mul_nonneg hp0 (show 0≤ -Y by omega);rw [Int.mul_neg] at this;omega
  ·exact h0
  ·exfalso
   obtain⟨p,hp⟩ : ∃p:Int,q - q'=1+p:=⟨q - q' - 1,by omega⟩
   rw [hp] at e hgt
   have hp0:0≤p := j0i3
   rw [Int.add_mul,Int.one_mul] at e
   by_cases hY:0≤Y
   ·have:=Int.mul_nonneg hp0 hY;omega
   ·have:=Int.mul_nonneg hp0 (show 0≤ -Y by omega);rw [Int.mul_neg] at this;omega
 rw [hq,Int.zero_mul] at e
 exact⟨by omega,by omega⟩
end Go.Proofs.YtgilnmhejjpleaaGreat
