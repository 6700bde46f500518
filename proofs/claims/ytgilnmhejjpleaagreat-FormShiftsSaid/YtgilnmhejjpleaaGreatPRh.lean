/- Contracts of ratio: Add, Mul, Sub, Div, Of. -/
import Derived.Test.YtgilnmhejjpleaaGreatPRg
namespace Go.Proofs.YtgilnmhejjpleaaGreat
open Go.RowKit
attribute [local go_sem ↓] Go.wp_at_zero Go.wp_at_succ
set_option linter.unusedVariables false
theorem jcr2 {P:Prop}(h:P:=by rw [hWF]; exact z_3.out.other4 Kr_3.out nu nu nu nu):P:=h
theorem jgdd {P:Prop}(h:P:=by rw [hWF]; exact z_1.out.other4 Kr_1.out nu nu nu nu):P:=h
theorem jjr2 {P:Prop}(h:P:=by rw [hWF]; exact z2_3.out.other4 Kr_3.out nu nu nu nu):P:=h
theorem jv35 {P:Prop}(h:P:=by rw [hWF]; exact z2_1.out.other4 Kr_1.out nu nu nu nu):P:=h
theorem LimI.sgn {k:Nat} {w:World} {b:Bool} {m:Value} {X:Int}(h:LimI k w (.agg #[.bool b,m]) X):X=sg b X.natAbs:=by
 obtain⟨b',m',N,e,h1,rfl⟩:=h
 simp at e
 obtain⟨rfl,rfl⟩:=e
 rw [sg_abs]
theorem LimI.neg {k:Nat} {w:World} {b:Bool} {m:Value} {X:Int}(h:LimI k w (.agg #[.bool b,m]) X):LimI k w (.agg #[.bool (!b),m]) (-X):=by
 have e:=h.sgn
 have h2:=limI_mk (b := !b) h.mag
 rw [sg_not,← e] at h2
 exact h2
theorem LimR.parts {k:Nat} {w:World} {b b':Bool} {m m':Value} {X Y:Int}(h:LimR k w (.agg #[.bool b,m,.bool b',m']) X Y):LimI k w (.agg #[.bool b,m]) X∧LimI k w (.agg #[.bool b',m']) Y:=by
 obtain⟨_,_,_,_,e,h1,h2⟩:=h
 injection e with e
 injection e with e
 simp at e
 obtain⟨rfl,rfl,rfl,rfl⟩:=e
 exact⟨h1,h2⟩
theorem LimQ.neg {k:Nat} {w:World} {b b':Bool} {m m':Value} {q:Rat}(h:LimQ k w (.agg #[.bool b,m,.bool b',m']) q):LimQ k w (.agg #[.bool (!b),m,.bool b',m']) (-q):=by
 obtain⟨X,Y,h,rfl⟩:=h
 obtain⟨h1,h2⟩:=h.parts
 refine⟨-X,Y,limR_mk h1.neg h2,?_⟩
 unfold ratOf
 split
 ·exact Rat.neg_divInt _ _
 ·exact Rat.neg_zero
set_option maxRecDepth 100000 in
set_option maxHeartbeats 1000000 in
theorem q_add0(b:Bool)(A:Option Addr)(n c:Nat)(b':Bool)(A':Option Addr)(n' c':Nat)(p:Bool)(P:Option Addr)(m d:Nat)(p':Bool)(P':Option Addr)(m' d':Nat)(w:World)(k l:Nat)(x y:Rat)(hx:LimQ k w (.agg #[.bool b,.slice A n c,.bool b',.slice A' n' c']) x)(hy:LimQ l w (.agg #[.bool p,.slice P m d,.bool p',.slice P' m' d']) y)(hk:k≤40000)(hl:l≤40000)(h1:1≤k)(h1':1≤l) :
 Calls Tryz.prog 56 #[(.agg #[.bool b,.slice A n c,.bool b',.slice A' n' c']),(.agg #[.bool p,.slice P m d,.bool p',.slice P' m' d'])] w fun e w'=>RatPost w w' e (x+y):=by
 have x_0:=Lib.hid hx
 have y_0:=Lib.hid hy
 clear hx hy
 go_enter Tryz.func56,Tryz.ntmps56
 go_wp2_with fail
 refine Calls.mono (told_add _ _ _ _ _ _ _ _ _ _ _ _ _ _ _ _ _ k l x y (((x_0.out.alloc_ _).alloc_ _).alloc_ _) (((y_0.out.alloc_ _).alloc_ _).alloc_ _) hk hl h1 h1') ?_
 rintro e w1 ⟨v,rfl,h,hb⟩
 obtain⟨b1,A1,n1,c1,d1,B1,m1,k1,rfl,-,-,-,h1,h2⟩:=h.form
 have hB:=bun (bun (bun (hb)))
 have Ka_1:=Lib.hid (show Blk w1 (w.heap.size) 36 #[.bool b,.slice A n c,.bool b',.slice A' n' c'] from(((Blk.new _ _ jupy _ _).alloc_ _).alloc_ _).below hb)
 have Kb_1:=Lib.hid (show Blk w1 (w.heap.size+1) 36 #[.bool p,.slice P m d,.bool p',.slice P' m' d'] from((Blk.new _ _ jupy _ _).alloc_ _).below hb)
 have Kr_1:=Lib.hid (show Blk w1 (w.heap.size+1+1) 36 #[.bool false,.slice none 0 0,.bool false,.slice none 0 0] from(Blk.new _ _ jupy _ _).below hb)
 have z_1:=Lib.hid (h1)
 have z2_1:=Lib.hid (h2)
 have HB_1:=Lib.hid (hB)
 have hs_1:w.heap.size≤w1.heap.size:=HB_1.out.size
 have hz_1:w.heap.size+3≤w1.heap.size := jrv7
 clear hB hb x_0 y_0
 obtain⟨p10,p11,p12,p13,l1⟩:=Kr_1.out.use4
 obtain⟨r10,r11,r12,r13⟩:=Kr_1.out.into4
 go_wp2
 obtain⟨WF,hWF⟩ : ∃W,W=((((w1.setCell ⟨w.heap.size+1+1,0,none⟩ (.bool b1)).setCell ⟨w.heap.size+1+1,1,none⟩ (.slice A1 n1 c1)).setCell ⟨w.heap.size+1+1,2,none⟩ (.bool d1)).setCell ⟨w.heap.size+1+1,3,none⟩ (.slice B1 m1 k1)):=⟨_,rfl⟩
 rw [← hWF]
 have kq:Blk WF (w.heap.size+1+1) 36 #[.bool b1,.slice A1 n1 c1,.bool d1,.slice B1 m1 k1] := jvku
 have hBF:Below w.heap.size w WF:=by rw [hWF];exact Below.set4 (HB_1.out) jvm6
 have f1:IsInt WF (.agg #[.bool b1,.slice A1 n1 c1]) (x+y).num := jgdd
 have f2:IsInt WF (.agg #[.bool d1,.slice B1 m1 k1]) ((x+y).den:Int) := jv35
 have HE:Hid (RatPost w WF (Ending.returned (.agg #[.bool b1,.slice A1 n1 c1,.bool d1,.slice B1 m1 k1])) (x+y)):=⟨_,rfl,⟨_,_,_,_,rfl,f1,f2⟩,hBF⟩
 obtain⟨e0,e1,e2,e3⟩:=kq.cells4
 clear hWF
 exact bodyPost_ret (v := .agg #[.bool b1,.slice A1 n1 c1,.bool d1,.slice B1 m1 k1]) (by simp [results,Tryz.results56,go_sem,e0,e1,e2,e3] <;> omega) rfl HE.out
theorem q_add {k l:Nat} {w:World} {v v':Value} {x y:Rat}(hx:LimQ k w v x)(hy:LimQ l w v' y)(hk:k≤40000)(hl:l≤40000)(h1:1≤k)(h1':1≤l):Calls Tryz.prog 56 #[v,v'] w fun e w'=>RatPost w w' e (x+y):=by
 have Hx:=hx
 have Hy:=hy
 obtain⟨X,Y,hx,rfl⟩:=hx
 obtain⟨X',Y',hy,rfl⟩:=hy
 obtain⟨b,A,n,c,b',A',n',c',rfl,-,-⟩:=hx.form
 obtain⟨p,P,m,d,p',P',m',d',rfl,-,-⟩:=hy.form
 exact q_add0 b A n c b' A' n' c' p P m d p' P' m' d' w k l _ _ Hx Hy hk hl h1 h1'
set_option maxRecDepth 100000 in
set_option maxHeartbeats 1000000 in
theorem q_mul0(b:Bool)(A:Option Addr)(n c:Nat)(b':Bool)(A':Option Addr)(n' c':Nat)(p:Bool)(P:Option Addr)(m d:Nat)(p':Bool)(P':Option Addr)(m' d':Nat)(w:World)(k l:Nat)(x y:Rat)(hx:LimQ k w (.agg #[.bool b,.slice A n c,.bool b',.slice A' n' c']) x)(hy:LimQ l w (.agg #[.bool p,.slice P m d,.bool p',.slice P' m' d']) y)(hk:k≤40000)(hl:l≤40000)(h1:1≤k)(h1':1≤l) :
 Calls Tryz.prog 104 #[(.agg #[.bool b,.slice A n c,.bool b',.slice A' n' c']),(.agg #[.bool p,.slice P m d,.bool p',.slice P' m' d'])] w fun e w'=>RatPost w w' e (x*y):=by
 have x_0:=Lib.hid hx
 have y_0:=Lib.hid hy
 clear hx hy
 go_enter Tryz.func104,Tryz.ntmps104
 go_wp2_with fail
 refine Calls.mono (told_mul _ _ _ _ _ _ _ _ _ _ _ _ _ _ _ _ _ k l x y (((x_0.out.alloc_ _).alloc_ _).alloc_ _) (((y_0.out.alloc_ _).alloc_ _).alloc_ _) hk hl h1 h1') ?_
 rintro e w1 ⟨v,rfl,h,hb⟩
 obtain⟨b1,A1,n1,c1,d1,B1,m1,k1,rfl,-,-,-,h1,h2⟩:=h.form
 have hB:=bun (bun (bun (hb)))
 have Ka_1:=Lib.hid (show Blk w1 (w.heap.size) 36 #[.bool b,.slice A n c,.bool b',.slice A' n' c'] from(((Blk.new _ _ jupy _ _).alloc_ _).alloc_ _).below hb)
 have Kb_1:=Lib.hid (show Blk w1 (w.heap.size+1) 36 #[.bool p,.slice P m d,.bool p',.slice P' m' d'] from((Blk.new _ _ jupy _ _).alloc_ _).below hb)
 have Kr_1:=Lib.hid (show Blk w1 (w.heap.size+1+1) 36 #[.bool false,.slice none 0 0,.bool false,.slice none 0 0] from(Blk.new _ _ jupy _ _).below hb)
 have z_1:=Lib.hid (h1)
 have z2_1:=Lib.hid (h2)
 have HB_1:=Lib.hid (hB)
 have hs_1:w.heap.size≤w1.heap.size:=HB_1.out.size
 have hz_1:w.heap.size+3≤w1.heap.size := jrv7
 clear hB hb x_0 y_0
 obtain⟨p10,p11,p12,p13,l1⟩:=Kr_1.out.use4
 obtain⟨r10,r11,r12,r13⟩:=Kr_1.out.into4
 go_wp2
 obtain⟨WF,hWF⟩ : ∃W,W=((((w1.setCell ⟨w.heap.size+1+1,0,none⟩ (.bool b1)).setCell ⟨w.heap.size+1+1,1,none⟩ (.slice A1 n1 c1)).setCell ⟨w.heap.size+1+1,2,none⟩ (.bool d1)).setCell ⟨w.heap.size+1+1,3,none⟩ (.slice B1 m1 k1)):=⟨_,rfl⟩
 rw [← hWF]
 have kq:Blk WF (w.heap.size+1+1) 36 #[.bool b1,.slice A1 n1 c1,.bool d1,.slice B1 m1 k1] := jvku
 have hBF:Below w.heap.size w WF:=by rw [hWF];exact Below.set4 (HB_1.out) jvm6
 have f1:IsInt WF (.agg #[.bool b1,.slice A1 n1 c1]) (x*y).num := jgdd
 have f2:IsInt WF (.agg #[.bool d1,.slice B1 m1 k1]) ((x*y).den:Int) := jv35
 have HE:Hid (RatPost w WF (Ending.returned (.agg #[.bool b1,.slice A1 n1 c1,.bool d1,.slice B1 m1 k1])) (x*y)):=⟨_,rfl,⟨_,_,_,_,rfl,f1,f2⟩,hBF⟩
 obtain⟨e0,e1,e2,e3⟩:=kq.cells4
 clear hWF
 exact bodyPost_ret (v := .agg #[.bool b1,.slice A1 n1 c1,.bool d1,.slice B1 m1 k1]) (by simp [results,Tryz.results104,go_sem,e0,e1,e2,e3] <;> omega) rfl HE.out
theorem q_mul {k l:Nat} {w:World} {v v':Value} {x y:Rat}(hx:LimQ k w v x)(hy:LimQ l w v' y)(hk:k≤40000)(hl:l≤40000)(h1:1≤k)(h1':1≤l):Calls Tryz.prog 104 #[v,v'] w fun e w'=>RatPost w w' e (x*y):=by
 have Hx:=hx
 have Hy:=hy
 obtain⟨X,Y,hx,rfl⟩:=hx
 obtain⟨X',Y',hy,rfl⟩:=hy
 obtain⟨b,A,n,c,b',A',n',c',rfl,-,-⟩:=hx.form
 obtain⟨p,P,m,d,p',P',m',d',rfl,-,-⟩:=hy.form
 exact q_mul0 b A n c b' A' n' c' p P m d p' P' m' d' w k l _ _ Hx Hy hk hl h1 h1'
set_option maxRecDepth 100000 in
set_option maxHeartbeats 1000000 in
theorem q_sub0(b:Bool)(A:Option Addr)(n c:Nat)(b':Bool)(A':Option Addr)(n' c':Nat)(p:Bool)(P:Option Addr)(m d:Nat)(p':Bool)(P':Option Addr)(m' d':Nat)(w:World)(k l:Nat)(x y:Rat)(hx:LimQ k w (.agg #[.bool b,.slice A n c,.bool b',.slice A' n' c']) x)(hy:LimQ l w (.agg #[.bool p,.slice P m d,.bool p',.slice P' m' d']) y)(hk:k≤40000)(hl:l≤40000)(h1:1≤k)(h1':1≤l) :
 Calls Tryz.prog 67 #[(.agg #[.bool b,.slice A n c,.bool b',.slice A' n' c']),(.agg #[.bool p,.slice P m d,.bool p',.slice P' m' d'])] w fun e w'=>RatPost w w' e (x - y):=by
 have x_0:=Lib.hid hx
 have y_0:=Lib.hid hy.neg
 have HS:=Lib.hid (Rat.sub_eq_add_neg x y)
 clear hx hy
 go_enter Tryz.func67,Tryz.ntmps67
 go_upto_region 1 with fail
 generalize hW:(((w.alloc (.cells #[.bool b,.slice A n c,.bool b',.slice A' n' c'] 36)).alloc (.cells #[.bool p,.slice P m d,.bool p',.slice P' m' d'] 36)).alloc (.cells #[.bool false,.slice none 0 0,.bool false,.slice none 0 0] 36))=w1
 have x_1:=Lib.hid (hW▸(((x_0.out.alloc_ _).alloc_ _).alloc_ _))
 have y_1:=Lib.hid (hW▸(((y_0.out.alloc_ _).alloc_ _).alloc_ _))
 have Ka_1:=Lib.hid (show Blk w1 (w.heap.size) 36 #[.bool b,.slice A n c,.bool b',.slice A' n' c'] from jl14)
 have Kb_1:=Lib.hid (show Blk w1 (w.heap.size+1) 36 #[.bool p,.slice P m d,.bool p',.slice P' m' d'] from jtbf)
 have Kr_1:=Lib.hid (show Blk w1 (w.heap.size+1+1) 36 #[.bool false,.slice none 0 0,.bool false,.slice none 0 0] from jc21)
 have HB_1:=Lib.hid (show Below w.heap.size w w1 from jkqe)
 have hs_1:w.heap.size≤w1.heap.size:=HB_1.out.size
 have hz_1:w.heap.size+3≤w1.heap.size := j59e
 clear hW x_0 y_0
 obtain⟨p10,p11,p12,p13,l1⟩:=Ka_1.out.use4
 obtain⟨p20,p21,p22,p23,l2⟩:=Kb_1.out.use4
 obtain⟨r20,r21,r22,r23⟩:=Kb_1.out.into4
 go_wp2_with fail
 generalize hW:(w1.setCell ⟨w.heap.size+1,0,none⟩ (.bool (!p)))=w2
 have x_2:=Lib.hid (by have h:=(x_1.out.one Kb_1.out (i:=0) (x := .bool p) (y := .bool (!p)) rfl nu);rw [hW] at h;exact h)
 have y_2:=Lib.hid (by have h:=(y_1.out.one Kb_1.out (i:=0) (x := .bool p) (y := .bool (!p)) rfl nu);rw [hW] at h;exact h)
 have Ka_2:=Lib.hid (show Blk w2 (w.heap.size) 36 #[.bool b,.slice A n c,.bool b',.slice A' n' c'] from by rw [← hW];exact(Ka_1.out.other j0i3 0 (.bool (!p))))
 have Kb_2:=Lib.hid (show Blk w2 (w.heap.size+1) 36 #[.bool (!p),.slice P m d,.bool p',.slice P' m' d'] from by rw [← hW];exact(Kb_1.out.set_ 0 (.bool (!p))))
 have Kr_2:=Lib.hid (show Blk w2 (w.heap.size+1+1) 36 #[.bool false,.slice none 0 0,.bool false,.slice none 0 0] from by rw [← hW];exact(Kr_1.out.other j0i3 0 (.bool (!p))))
 have HB_2:=Lib.hid (show Below w.heap.size w w2 from by rw [← hW];exact(bset HB_1.out j0i3))
 have hs_2:w.heap.size≤w2.heap.size:=HB_2.out.size
 have hz_2:w1.heap.size≤w2.heap.size := jfej
 clear hW x_1 y_1 Ka_1 Kb_1 Kr_1 HB_1 p10 p11 p12 p13 l1 p20 p21 p22 p23 l2 r20 r21 r22 r23
 refine Calls.mono (q_add x_2.out y_2.out hk hl h1 h1') ?_
 rintro e w3 ⟨v,rfl,h,hb⟩
 rw [← HS.out] at h
 obtain⟨b3,A3,n3,c3,d3,B3,m3,k3,rfl,-,-,-,h1,h2⟩:=h.form
 have hB:=hb
 have Ka_3:=Lib.hid (Ka_2.out.below hB)
 have Kb_3:=Lib.hid (Kb_2.out.below hB)
 have Kr_3:=Lib.hid (Kr_2.out.below hB)
 have z_3:=Lib.hid (h1)
 have z2_3:=Lib.hid (h2)
 have HB_3:=Lib.hid (below_trans HB_2.out hB)
 have hs_3:w.heap.size≤w3.heap.size:=HB_3.out.size
 have hz_3:w2.heap.size+0≤w3.heap.size := jrv7
 clear hB hb x_2 y_2 Ka_2 Kb_2 Kr_2 HB_2
 obtain⟨p30,p31,p32,p33,l3⟩:=Kr_3.out.use4
 obtain⟨r30,r31,r32,r33⟩:=Kr_3.out.into4
 go_wp2
 obtain⟨WF,hWF⟩ : ∃W,W=((((w3.setCell ⟨w.heap.size+1+1,0,none⟩ (.bool b3)).setCell ⟨w.heap.size+1+1,1,none⟩ (.slice A3 n3 c3)).setCell ⟨w.heap.size+1+1,2,none⟩ (.bool d3)).setCell ⟨w.heap.size+1+1,3,none⟩ (.slice B3 m3 k3)):=⟨_,rfl⟩
 rw [← hWF]
 have kq:Blk WF (w.heap.size+1+1) 36 #[.bool b3,.slice A3 n3 c3,.bool d3,.slice B3 m3 k3] := js60
 have hBF:Below w.heap.size w WF:=by rw [hWF];exact Below.set4 (HB_3.out) jvm6
 have f1:IsInt WF (.agg #[.bool b3,.slice A3 n3 c3]) (x - y).num := jcr2
 have f2:IsInt WF (.agg #[.bool d3,.slice B3 m3 k3]) ((x - y).den:Int) := jjr2
 have HE:Hid (RatPost w WF (Ending.returned (.agg #[.bool b3,.slice A3 n3 c3,.bool d3,.slice B3 m3 k3])) (x - y)):=⟨_,rfl,⟨_,_,_,_,rfl,f1,f2⟩,hBF⟩
 obtain⟨e0,e1,e2,e3⟩:=kq.cells4
 clear hWF
 exact bodyPost_ret (v := .agg #[.bool b3,.slice A3 n3 c3,.bool d3,.slice B3 m3 k3]) (by simp [results,Tryz.results67,go_sem,e0,e1,e2,e3] <;> omega) rfl HE.out
theorem q_sub {k l:Nat} {w:World} {v v':Value} {x y:Rat}(hx:LimQ k w v x)(hy:LimQ l w v' y)(hk:k≤40000)(hl:l≤40000)(h1:1≤k)(h1':1≤l):Calls Tryz.prog 67 #[v,v'] w fun e w'=>RatPost w w' e (x - y):=by
 have Hx:=hx
 have Hy:=hy
 obtain⟨X,Y,hx,rfl⟩:=hx
 obtain⟨X',Y',hy,rfl⟩:=hy
 obtain⟨b,A,n,c,b',A',n',c',rfl,-,-⟩:=hx.form
 obtain⟨p,P,m,d,p',P',m',d',rfl,-,-⟩:=hy.form
 exact q_sub0 b A n c b' A' n' c' p P m d p' P' m' d' w k l _ _ Hx Hy hk hl h1 h1'
theorem IsInt.limk {w:World} {v:Value} {Z:Int}(h:IsInt w v Z)(h1 : -9223372036854775808≤Z)(h2:Z≤9223372036854775807):LimI 2 w v Z:=h.lim (by
 have:(4294967296:Nat) ^ 2=18446744073709551616 := jpu1
 omega)
def RatOfPost(w w':World)(e:Ending)(q:Rat)(ok:Bool):Prop := ∃v,e = .returned (.tuple #[v,.bool ok])∧IsRat w' v q∧Below w.heap.size w w'
end Go.Proofs.YtgilnmhejjpleaaGreat
