/- Contracts of ratio: lowest, Plain, Of. -/
import Derived.Test.YtgilnmhejjpleaaGreatPRb
namespace Go.Proofs.YtgilnmhejjpleaaGreat
open Go.RowKit
set_option linter.unusedVariables false
theorem LimI.mag {k:Nat} {w:World} {b:Bool} {m:Value} {X:Int}(h:LimI k w (.agg #[.bool b,m]) X):Lim k w m X.natAbs:=by
 obtain⟨b',m',N,e,h1,rfl⟩:=h
 simp at e
 obtain⟨rfl,rfl⟩:=e
 rw [sg_abs]
 exact h1
theorem isInt_nat {w:World} {m:Value} {N:Nat}(h:IsNat w m N):IsInt w (.agg #[.bool false,m]) (N:Int):=⟨m,by rw [decide_eq_false j0a],by rwa [Int.natAbs_natCast]⟩
theorem fdiv_even0 {X q:Int} {G:Nat}(h:q*(G:Int)=X)(hG:0<G):FDiv X G q 0:=⟨by omega,.inl ⟨by omega,by omega⟩⟩
set_option maxRecDepth 100000 in
set_option maxHeartbeats 1000000 in
theorem lowest_any(b:Bool)(A:Option Addr)(n c:Nat)(b':Bool)(A':Option Addr)(n' c':Nat)(w:World)(k:Nat)(X Y:Int)(hx:LimI k w (.agg #[.bool b,.slice A n c]) X)(hy:LimI k w (.agg #[.bool b',.slice A' n' c']) Y)(hk:k≤100000)(hY:0<Y) :
 Calls Tryz.prog 103 #[(.agg #[.bool b,.slice A n c,.bool b',.slice A' n' c'])] w fun e w'=>RatPost w w' e (Rat.divInt X Y):=by
 obtain⟨E1,E2,hG⟩:=divInt_parts X hY
 have FX:=Lib.hid (fdiv_even0 E1 hG)
 have FY:=Lib.hid (fdiv_even0 E2 hG)
 have HG:Hid ((Int.gcd X Y:Int)≠0):=by show _≠_;omega
 have BG:Hid ((Int.gcd X Y:Int).natAbs<4294967296 ^ k):=by
  show _<_
  have:=hy.lt
  have h2:=Nat.le_of_dvd j0a (Nat.gcd_dvd_right X.natAbs Y.natAbs)
  unfold Int.gcd
  omega
 have x_0:=Lib.hid hx
 have y_0:=Lib.hid hy
 clear E1 E2 hG hx hy hY
 go_enter Tryz.func103,Tryz.ntmps103
 go_wp2_with fail
 refine Calls.mono (lim_gcd ((x_0.out.alloc_ _).alloc_ _).mag ((y_0.out.alloc_ _).alloc_ _).mag j0a j0a) ?_
 rintro e w1 ⟨v,rfl,h,hb⟩
 obtain⟨A1,n1,c1,rfl,-,h⟩:=isNat_form h
 replace h:=isInt_nat h
 have hB:=bun (bun (hb))
 have x_1:=Lib.hid (x_0.out.below hB)
 have y_1:=Lib.hid (y_0.out.below hB)
 have Ka_1:=Lib.hid (show Blk w1 (w.heap.size) 36 #[.bool b,.slice A n c,.bool b',.slice A' n' c'] from((Blk.new _ _ j0b _ _).alloc_ _).below hb)
 have Kr_1:=Lib.hid (show Blk w1 (w.heap.size+1) 36 #[.bool false,.slice none 0 0,.bool false,.slice none 0 0] from(Blk.new _ _ j0b _ _).below hb)
 have g_1:=Lib.hid (h)
 have HB_1:=Lib.hid (hB)
 have hs_1:w.heap.size≤w1.heap.size:=HB_1.out.size
 have hz_1:w.heap.size+2≤w1.heap.size := j0y
 clear hB hb x_0 y_0
 obtain⟨p10,p11,p12,p13,l1⟩:=Ka_1.out.use4
 go_wp2_with fail
 refine Calls.mono (li_div_is _ 0 FX.out (x_1.out.alloc_ _) ((g_1.out.alloc_ _).lim BG.out) j0a j0a HG.out) ?_
 rintro e w2 ⟨vq,vr,rfl,h,h2,hb⟩
 obtain⟨b2,A2,n2,c2,rfl,-,-,h⟩:=h.form
 obtain⟨d2,B2,m2,k2,rfl,-,-,h2⟩:=h2.form
 clear h2
 have hB:=bun (hb)
 have x_2:=Lib.hid (x_1.out.below hB)
 have y_2:=Lib.hid (y_1.out.below hB)
 have g_2:=Lib.hid (g_1.out.below hB)
 have Ka_2:=Lib.hid (Ka_1.out.below hB)
 have Kr_2:=Lib.hid (Kr_1.out.below hB)
 have Kg_2:=Lib.hid (show Blk w2 (w1.heap.size) 34 #[.bool false,.slice A1 n1 c1] from(Blk.new _ _ j0b _ _).below hb)
 have q_2:=Lib.hid (h)
 have HB_2:=Lib.hid (below_trans HB_1.out hB)
 have hs_2:w.heap.size≤w2.heap.size:=HB_2.out.size
 have hz_2:w1.heap.size+1≤w2.heap.size := j0y
 clear hB hb x_1 y_1 g_1 Ka_1 Kr_1 HB_1 p10 p11 p12 p13 l1
 obtain⟨p20,p21,p22,p23,l2⟩:=Ka_2.out.use4
 obtain⟨p30,p31,l3⟩:=Kg_2.out.use2
 go_wp2_with fail
 refine Calls.mono (li_div_is _ 0 FY.out ((y_2.out.alloc_ _).alloc_ _) (((g_2.out.alloc_ _).alloc_ _).lim BG.out) j0a j0a HG.out) ?_
 rintro e w3 ⟨vq,vr,rfl,h,h2,hb⟩
 obtain⟨b3,A3,n3,c3,rfl,-,-,h⟩:=h.form
 obtain⟨d3,B3,m3,k3,rfl,-,-,h2⟩:=h2.form
 clear h2
 have hB:=bun (bun (hb))
 have q_3:=Lib.hid (q_2.out.below hB)
 have Ka_3:=Lib.hid (Ka_2.out.below hB)
 have Kr_3:=Lib.hid (Kr_2.out.below hB)
 have Kg_3:=Lib.hid (Kg_2.out.below hB)
 have Kq_3:=Lib.hid (show Blk w3 (w2.heap.size) 34 #[.bool b2,.slice A2 n2 c2] from((Blk.new _ _ j0b _ _).alloc_ _).below hb)
 have Kq2_3:=Lib.hid (show Blk w3 (w2.heap.size+1) 34 #[.bool d2,.slice B2 m2 k2] from(Blk.new _ _ j0b _ _).below hb)
 have d_3:=Lib.hid (h)
 have HB_3:=Lib.hid (below_trans HB_2.out hB)
 have hs_3:w.heap.size≤w3.heap.size:=HB_3.out.size
 have hz_3:w2.heap.size+2≤w3.heap.size := j0y
 clear hB hb x_2 y_2 g_2 q_2 Ka_2 Kr_2 Kg_2 HB_2 p20 p21 p22 p23 l2 p30 p31 l3
 obtain⟨p40,p41,l4⟩:=Kq_3.out.use2
 obtain⟨p50,p51,p52,p53,l5⟩:=Kr_3.out.use4
 obtain⟨r50,r51,r52,r53⟩:=Kr_3.out.into4
 obtain⟨z0,z1,z2,z3,zl⟩:=(show Blk ((w3.alloc (.cells #[.bool b3,.slice A3 n3 c3] 34)).alloc (.cells #[.bool d3,.slice B3 m3 k3] 34)) (w.heap.size+1) 36 #[.bool false,.slice none 0 0,.bool false,.slice none 0 0] from((Kr_3.out.alloc_ _).alloc_ _)).use4
 obtain⟨y0,y1,y2,y3⟩:=(show Blk ((w3.alloc (.cells #[.bool b3,.slice A3 n3 c3] 34)).alloc (.cells #[.bool d3,.slice B3 m3 k3] 34)) (w.heap.size+1) 36 #[.bool false,.slice none 0 0,.bool false,.slice none 0 0] from((Kr_3.out.alloc_ _).alloc_ _)).into4
 go_wp2
 obtain⟨WF,hWF⟩ : ∃W,W=((((((w3.alloc (.cells #[.bool b3,.slice A3 n3 c3] 34)).alloc (.cells #[.bool d3,.slice B3 m3 k3] 34)).setCell ⟨w.heap.size+1,0,none⟩ (.bool b2)).setCell ⟨w.heap.size+1,1,none⟩ (.slice A2 n2 c2)).setCell ⟨w.heap.size+1,2,none⟩ (.bool b3)).setCell ⟨w.heap.size+1,3,none⟩ (.slice A3 n3 c3)):=⟨_,rfl⟩
 rw [← hWF]
 have kq:Blk WF (w.heap.size+1) 36 #[.bool b2,.slice A2 n2 c2,.bool b3,.slice A3 n3 c3]:=by rw [hWF];exact((Kr_3.out.alloc_ _).alloc_ _).own4
 have hBF:Below w.heap.size w WF:=by rw [hWF];exact Below.set4 (halloc (halloc (HB_3.out))) j0h
 have f1:IsInt WF (.agg #[.bool b2,.slice A2 n2 c2]) (Rat.divInt X Y).num:=by rw [hWF];exact((q_3.out.alloc_ _).alloc_ _).other4 ((Kr_3.out.alloc_ _).alloc_ _) nu nu nu nu
 have f2:IsInt WF (.agg #[.bool b3,.slice A3 n3 c3]) ((Rat.divInt X Y).den:Int):=by rw [hWF];exact((d_3.out.alloc_ _).alloc_ _).other4 ((Kr_3.out.alloc_ _).alloc_ _) nu nu nu nu
 have HE:Hid (RatPost w WF (Ending.returned (.agg #[.bool b2,.slice A2 n2 c2,.bool b3,.slice A3 n3 c3])) (Rat.divInt X Y)):=⟨_,rfl,⟨_,_,_,_,rfl,f1,f2⟩,hBF⟩
 obtain⟨e0,e1,e2,e3⟩:=kq.cells4
 clear hWF
 exact bodyPost_ret (v := .agg #[.bool b2,.slice A2 n2 c2,.bool b3,.slice A3 n3 c3]) (by simp [results,Tryz.results103,go_sem,e0,e1,e2,e3] <;> omega) rfl HE.out
theorem p_lowest {k:Nat} {w:World} {v:Value} {q:Rat}(h:LimP k w v q)(hk:k≤100000):Calls Tryz.prog 103 #[v] w fun e w'=>RatPost w w' e q:=by
 obtain⟨X,Y,h,hY,rfl⟩:=h
 obtain⟨b,A,n,c,b',A',n',c',rfl,ha,hb⟩:=h.form
 exact lowest_any b A n c b' A' n' c' w k X Y ha hb hk hY
set_option maxRecDepth 100000 in
set_option maxHeartbeats 1000000 in
theorem q_plain0(b:Bool)(A:Option Addr)(n c:Nat)(b':Bool)(A':Option Addr)(n' c':Nat)(w:World)(k:Nat)(q:Rat)(h:LimQ k w (.agg #[.bool b,.slice A n c,.bool b',.slice A' n' c']) q)(hk:k≤100000)(h1:1≤k) :
 Calls Tryz.prog 71 #[(.agg #[.bool b,.slice A n c,.bool b',.slice A' n' c'])] w fun e w'=>RatPost w w' e q:=by
 have x_0:=Lib.hid h
 clear h
 go_enter Tryz.func71,Tryz.ntmps71
 go_wp2_with fail
 refine Calls.mono (q_taken ((x_0.out.alloc_ _).alloc_ _) j0a h1) ?_
 rintro e w1 ⟨v1,rfl,h,hb⟩
 have hB:=bun (bun (hb))
 have Ka_1:=Lib.hid (show Blk w1 (w.heap.size) 36 #[.bool b,.slice A n c,.bool b',.slice A' n' c'] from((Blk.new _ _ j0b _ _).alloc_ _).below hb)
 have Kr_1:=Lib.hid (show Blk w1 (w.heap.size+1) 36 #[.bool false,.slice none 0 0,.bool false,.slice none 0 0] from(Blk.new _ _ j0b _ _).below hb)
 have t_1:=Lib.hid (h)
 have HB_1:=Lib.hid (hB)
 have hs_1:w.heap.size≤w1.heap.size:=HB_1.out.size
 have hz_1:w.heap.size+2≤w1.heap.size := j0y
 clear hB hb x_0
 go_wp2_with fail
 refine Calls.mono (p_lowest t_1.out hk) ?_
 rintro e w2 ⟨v2,rfl,h,hb⟩
 obtain⟨b2,A2,n2,c2,d2,B2,m2,k2,rfl,-,-,-,h1,h2⟩:=h.form
 have hB:=hb
 have Ka_2:=Lib.hid (Ka_1.out.below hB)
 have Kr_2:=Lib.hid (Kr_1.out.below hB)
 have z_2:=Lib.hid (h1)
 have z2_2:=Lib.hid (h2)
 have HB_2:=Lib.hid (below_trans HB_1.out hB)
 have hs_2:w.heap.size≤w2.heap.size:=HB_2.out.size
 have hz_2:w1.heap.size+0≤w2.heap.size := j0y
 clear hB hb t_1 Ka_1 Kr_1 HB_1
 obtain⟨p10,p11,p12,p13,l1⟩:=Kr_2.out.use4
 obtain⟨r10,r11,r12,r13⟩:=Kr_2.out.into4
 go_wp2
 obtain⟨WF,hWF⟩ : ∃W,W=((((w2.setCell ⟨w.heap.size+1,0,none⟩ (.bool b2)).setCell ⟨w.heap.size+1,1,none⟩ (.slice A2 n2 c2)).setCell ⟨w.heap.size+1,2,none⟩ (.bool d2)).setCell ⟨w.heap.size+1,3,none⟩ (.slice B2 m2 k2)):=⟨_,rfl⟩
 rw [← hWF]
 have kq:Blk WF (w.heap.size+1) 36 #[.bool b2,.slice A2 n2 c2,.bool d2,.slice B2 m2 k2] := j00
 have hBF:Below w.heap.size w WF := jc7
 have f1:IsInt WF (.agg #[.bool b2,.slice A2 n2 c2]) (q).num := j04
 have f2:IsInt WF (.agg #[.bool d2,.slice B2 m2 k2]) ((q).den:Int) := j05
 have HE:Hid (RatPost w WF (Ending.returned (.agg #[.bool b2,.slice A2 n2 c2,.bool d2,.slice B2 m2 k2])) (q)):=⟨_,rfl,⟨_,_,_,_,rfl,f1,f2⟩,hBF⟩
 obtain⟨e0,e1,e2,e3⟩:=kq.cells4
 clear hWF
 exact bodyPost_ret (v := .agg #[.bool b2,.slice A2 n2 c2,.bool d2,.slice B2 m2 k2]) (by simp [results,Tryz.results71,go_sem,e0,e1,e2,e3] <;> omega) rfl HE.out
theorem q_plain {k:Nat} {w:World} {v:Value} {q:Rat}(h:LimQ k w v q)(hk:k≤100000)(h1:1≤k):Calls Tryz.prog 71 #[v] w fun e w'=>RatPost w w' e q:=by
 have H:=h
 obtain⟨X,Y,h,rfl⟩:=h
 obtain⟨b,A,n,c,b',A',n',c',rfl,ha,hb⟩:=h.form
 exact q_plain0 b A n c b' A' n' c' w k _ H hk h1
end Go.Proofs.YtgilnmhejjpleaaGreat
