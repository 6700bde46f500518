/- Contracts of prob: does any of a slice's elements (slices.ContainsFunc), holds, Fulfils, Cost. -/
import Derived.Test.YtgilnmhejjpleaaGreatPFe
namespace Go.Proofs.YtgilnmhejjpleaaGreat
open Go.RowKit
attribute [local go_sem ↓] Go.wp_at_zero Go.wp_at_succ
set_option linter.unusedVariables false
set_option linter.unusedSimpArgs false
open Classical in
noncomputable def anyB(m:Nat)(P:Nat→Bool):Bool:=decide (∃i,i<m∧P i=true)
theorem anyB_true {m:Nat} {P:Nat→Bool} : anyB m P=true↔∃i,i<m∧P i=true:=by simp [anyB]
theorem anyB_false {m:Nat} {P:Nat→Bool} : anyB m P=false↔∀i,i<m→P i=false:=by
 rw [← Bool.not_eq_true,anyB_true]
 constructor
 ·intro h i hi
  cases hp:P i
  ·rfl
  ·exact absurd ⟨i,hi,hp⟩ h
 ·rintro h ⟨i,hi,hp⟩
  rw [h i hi] at hp
  cases hp
set_option maxRecDepth 100000 in
set_option maxHeartbeats 2000000 in
theorem index_row {fn:FuncId} {cap:Array Value} {k m:Nat} {w:World} {v:Value} {P:Nat→Bool} {R:Nat→RwX}
 (hcf : ∀args u,(callFunc fn args).run Tryz.prog u = .ok (.enter fn args) u)
 (hG : ∀i w' x,i<m→Below w.heap.size w w'→RwN k w' x (R i)→Calls Tryz.prog fn (#[x.val] ++ cap) w' fun e w''=>e = .returned (.bool (P i))∧Below w'.heap.size w' w'') (h:RwsN k w v m R) :
 Calls Tryz.prog 96 #[v,.func (.func fn) #[] cap] w fun e w'=>(∃z:Int,e = .returned (.int .i64 z)∧((0≤z∧∃i,i<m∧P i=true)∨(z = -1∧∀i,i<m→P i=false)))∧Below w.heap.size w w':=by
 obtain⟨A,c,rfl,hc,hm⟩:=h.len
 have H:=Lib.hid h
 have HG:=Lib.hid hG
 clear h hG
 go_enter Tryz.func96,Tryz.ntmps96
 go_wp2
 go_loopw [8] (fun v8 wr => ∃ (i:Nat),v8 = .int .i64 (i:Nat)∧i≤m∧Below w.heap.size w wr∧∀j,j<i→P j=false) (fun v8 _=>m - (intOf v8).toNat)
 case atStart=>exact⟨0,rfl,Nat.zero_le _,Below.refl _ _,fun j hj=>absurd hj j0i3⟩
 case round =>
  obtain⟨i,rfl,hi,hbw,hinv⟩:=hrel
  have HB:=Lib.hid hbw
  have HI:=Lib.hid hinv
  clear hinv hbw
  by_cases hlt:i<m
  ·have hi0:(0:Int)≤(i:Int):=by omega
   have hik:(i:Int)<(m:Int) := j0i3
   obtain⟨ad,c1,⟨xA0,xn0,xc0,xs,⟨xb,xA,xn,xc,xb',xA',xn',xc'⟩⟩,e1,_,_,⟨x0,x1,x2,x3,x4,x5,x6⟩,hE⟩:=(H.out.below HB.out).at_ hlt
   simp only [Value.slice.injEq] at e1
   obtain⟨rfl,_,rfl⟩:=e1
   have HE:=Lib.hid hE
   clear hE
   cases hP:P i
   ·have HP:=Lib.hid hP
    have HC:=Lib.hid (HG.out i wr _ hlt HB.out HE.out)
    clear hP HG
    go_wp2_with fail
    refine Calls.mono HC.out ?_
    rintro e w3 ⟨rfl,hb3⟩
    have HB3:=Lib.hid (below_trans HB.out hb3)
    clear hb3 HC HE x0 x1 x2 x3 x4 x5 x6
    rw [HP.out]
    go_wp2
    go_roundw
    case rel=>exact⟨i+1,by go_num,by omega,HB3.out,fun q hq=>by
     by_cases hqi:q=i
     ·subst hqi;exact HP.out
     ·exact HI.out q j0i3⟩
    case measure=>simp [intOf];omega
   ·have HP:=Lib.hid hP
    have HC:=Lib.hid (HG.out i wr _ hlt HB.out HE.out)
    clear hP HG
    go_wp2_with fail
    refine Calls.mono HC.out ?_
    rintro e w3 ⟨rfl,hb3⟩
    have HB3:=Lib.hid (below_trans HB.out hb3)
    clear hb3 HC HE x0 x1 x2 x3 x4 x5 x6
    rw [HP.out]
    go_wp2
    go_ret
    exact⟨⟨_,rfl,.inl ⟨by omega,i,hlt,HP.out⟩⟩,HB3.out⟩
  ·obtain rfl:i=m:=by omega
   go_wp2
   go_ret
   exact⟨⟨_,rfl,.inr ⟨rfl,HI.out⟩⟩,HB.out⟩
set_option maxRecDepth 100000 in
theorem contains_row {fn:FuncId} {cap:Array Value} {k m:Nat} {w:World} {v:Value} {P:Nat→Bool} {R:Nat→RwX}
 (hcf : ∀args u,(callFunc fn args).run Tryz.prog u = .ok (.enter fn args) u)
 (hG : ∀i w' x,i<m→Below w.heap.size w w'→RwN k w' x (R i)→Calls Tryz.prog fn (#[x.val] ++ cap) w' fun e w''=>e = .returned (.bool (P i))∧Below w'.heap.size w' w'') (h:RwsN k w v m R) :
 Calls Tryz.prog 58 #[v,.func (.func fn) #[] cap] w fun e w'=>e = .returned (.bool (anyB m P))∧Below w.heap.size w w':=by
 have HC:=Lib.hid (index_row hcf hG h)
 clear h hG
 go_enter Tryz.func58,Tryz.ntmps58
 go_wp2_with fail
 refine Calls.mono HC.out ?_
 rintro e w3 ⟨⟨z,rfl,hz⟩,hb3⟩
 have HB3:=Lib.hid hb3
 have HA:Hid (anyB m P=decide (0≤z)):=by
  rcases hz with ⟨h1,h2⟩ | ⟨h1,h2⟩
  ·show anyB m P=decide (0≤z)
   rw [anyB_true.2 h2,decide_eq_true h1]
  ·show anyB m P=decide (0≤z)
   rw [anyB_false.2 h2,decide_eq_false j0i3]
 clear hz hb3 HC
 go_wp2
 go_ret
 exact⟨by rw [HA.out];rfl,HB3.out⟩
set_option maxRecDepth 100000 in
set_option maxHeartbeats 2000000 in
theorem index_rat {fn:FuncId} {cap:Array Value} {k m:Nat} {w:World} {v:Value} {P:Nat→Bool} {p:Bool} {q:Nat→Rat}
 (hcf : ∀args u,(callFunc fn args).run Tryz.prog u = .ok (.enter fn args) u)
 (hG : ∀i w' x,i<m→Below w.heap.size w w'→EQ p k w' x (q i)→Calls Tryz.prog fn (#[x] ++ cap) w' fun e w''=>e = .returned (.bool (P i))∧Below w'.heap.size w' w'') (h:RowQ p k w v m q) :
 Calls Tryz.prog 86 #[v,.func (.func fn) #[] cap] w fun e w'=>(∃z:Int,e = .returned (.int .i64 z)∧((0≤z∧∃i,i<m∧P i=true)∨(z = -1∧∀i,i<m→P i=false)))∧Below w.heap.size w w':=by
 obtain⟨A,c,rfl,hc,hm⟩:=h.len
 have H:=Lib.hid h
 have HG:=Lib.hid hG
 clear h hG
 go_enter Tryz.func86,Tryz.ntmps86
 go_wp2
 go_loopw [8] (fun v8 wr => ∃ (i:Nat),v8 = .int .i64 (i:Nat)∧i≤m∧Below w.heap.size w wr∧∀j,j<i→P j=false) (fun v8 _=>m - (intOf v8).toNat)
 case atStart=>exact⟨0,rfl,Nat.zero_le _,Below.refl _ _,fun j hj=>absurd hj j0i3⟩
 case round =>
  obtain⟨i,rfl,hi,hbw,hinv⟩:=hrel
  have HB:=Lib.hid hbw
  have HI:=Lib.hid hinv
  clear hinv hbw
  by_cases hlt:i<m
  ·have hi0:(0:Int)≤(i:Int):=by omega
   have hik:(i:Int)<(m:Int) := j0i3
   obtain⟨ad,c1,⟨b5,A5,n5,c5,d5,B5,m5,k5⟩,e1,_,_,⟨x0,x1,x2,x3,x4⟩,hE⟩:=(H.out.below HB.out).at_ hlt
   simp only [Value.slice.injEq] at e1
   obtain⟨rfl,_,rfl⟩:=e1
   have HE:=Lib.hid hE
   clear hE
   cases hP:P i
   ·have HP:=Lib.hid hP
    have HC:=Lib.hid (HG.out i wr _ hlt HB.out HE.out)
    clear hP HG
    go_wp2_with fail
    refine Calls.mono HC.out ?_
    rintro e w3 ⟨rfl,hb3⟩
    have HB3:=Lib.hid (below_trans HB.out hb3)
    clear hb3 HC HE x0 x1 x2 x3 x4
    rw [HP.out]
    go_wp2
    go_roundw
    case rel=>exact⟨i+1,by go_num,by omega,HB3.out,fun q hq=>by
     by_cases hqi:q=i
     ·subst hqi;exact HP.out
     ·exact HI.out q j0i3⟩
    case measure=>simp [intOf];omega
   ·have HP:=Lib.hid hP
    have HC:=Lib.hid (HG.out i wr _ hlt HB.out HE.out)
    clear hP HG
    go_wp2_with fail
    refine Calls.mono HC.out ?_
    rintro e w3 ⟨rfl,hb3⟩
    have HB3:=Lib.hid (below_trans HB.out hb3)
    clear hb3 HC HE x0 x1 x2 x3 x4
    rw [HP.out]
    go_wp2
    go_ret
    exact⟨⟨_,rfl,.inl ⟨by omega,i,hlt,HP.out⟩⟩,HB3.out⟩
  ·obtain rfl:i=m:=by omega
   go_wp2
   go_ret
   exact⟨⟨_,rfl,.inr ⟨rfl,HI.out⟩⟩,HB.out⟩
set_option maxRecDepth 100000 in
theorem contains_rat {fn:FuncId} {cap:Array Value} {k m:Nat} {w:World} {v:Value} {P:Nat→Bool} {p:Bool} {q:Nat→Rat}
 (hcf : ∀args u,(callFunc fn args).run Tryz.prog u = .ok (.enter fn args) u)
 (hG : ∀i w' x,i<m→Below w.heap.size w w'→EQ p k w' x (q i)→Calls Tryz.prog fn (#[x] ++ cap) w' fun e w''=>e = .returned (.bool (P i))∧Below w'.heap.size w' w'') (h:RowQ p k w v m q) :
 Calls Tryz.prog 54 #[v,.func (.func fn) #[] cap] w fun e w'=>e = .returned (.bool (anyB m P))∧Below w.heap.size w w':=by
 have HC:=Lib.hid (index_rat hcf hG h)
 clear h hG
 go_enter Tryz.func54,Tryz.ntmps54
 go_wp2_with fail
 refine Calls.mono HC.out ?_
 rintro e w3 ⟨⟨z,rfl,hz⟩,hb3⟩
 have HB3:=Lib.hid hb3
 have HA:Hid (anyB m P=decide (0≤z)):=by
  rcases hz with ⟨h1,h2⟩ | ⟨h1,h2⟩
  ·show anyB m P=decide (0≤z)
   rw [anyB_true.2 h2,decide_eq_true h1]
  ·show anyB m P=decide (0≤z)
   rw [anyB_false.2 h2,decide_eq_false j0i3]
 clear hz hb3 HC
 go_wp2
 go_ret
 exact⟨by rw [HA.out];rfl,HB3.out⟩
def HoldX(r:RwX)(n:Nat)(x:Nat→Rat):Prop:=if r.s=0 then dotF r.coef.q x n≤r.h else if r.s=2 then r.h≤dotF r.coef.q x n else dotF r.coef.q x n=r.h
open Classical in
noncomputable def holdB(r:RwX)(n:Nat)(x:Nat→Rat):Bool:=decide (HoldX r n x)
theorem cmpQ_le {x y:Rat} : cmpQ x y≤0↔x≤y:=by
 rcases cmpQ_cases x y with ⟨h1,h2⟩ | ⟨h1,h2⟩ | ⟨h1,h2⟩
 ·rw [h2];exact⟨fun _=>Rat.le_of_lt h1,fun _=>by omega⟩
 ·rw [h2,h1];exact⟨fun _=>Rat.le_refl,fun _=>by omega⟩
 ·rw [h2];exact⟨fun h=>absurd h j0i3,fun h=>absurd h (Rat.not_le.2 h1)⟩
theorem cmpQ_ge {x y:Rat} : 0≤cmpQ x y↔y≤x:=by
 rcases cmpQ_cases x y with ⟨h1,h2⟩ | ⟨h1,h2⟩ | ⟨h1,h2⟩
 ·rw [h2];exact⟨fun h=>absurd h j0i3,fun h=>absurd h (Rat.not_le.2 h1)⟩
 ·rw [h2,h1];exact⟨fun _=>Rat.le_refl,fun _=>by omega⟩
 ·rw [h2];exact⟨fun _=>Rat.le_of_lt h1,fun _=>by omega⟩
theorem cmpQ_nil {x y:Rat} : cmpQ x y=0↔x=y:=by
 rcases cmpQ_cases x y with ⟨h1,h2⟩ | ⟨h1,h2⟩ | ⟨h1,h2⟩
 ·rw [h2];exact⟨fun h=>absurd h j0i3,fun h=>by rw [h] at h1;exact absurd h1 Rat.lt_irrefl⟩
 ·rw [h2];exact⟨fun _=>h1,fun _=>rfl⟩
 ·rw [h2];exact⟨fun h=>absurd h j0i3,fun h=>by rw [h] at h1;exact absurd h1 Rat.lt_irrefl⟩
theorem cmpQ_rng(x y:Rat) : -1≤cmpQ x y∧cmpQ x y≤1:=by
 rcases cmpQ_cases x y with ⟨h1,h2⟩ | ⟨h1,h2⟩ | ⟨h1,h2⟩ <;> omega
set_option maxRecDepth 100000 in
set_option maxHeartbeats 2000000 in
theorem phold_0 {xA0:Option Addr} {xn0 xc0:Nat} {xs:Int} {xb:Bool} {xA:Option Addr} {xn xc:Nat} {xb':Bool} {xA':Option Addr} {xn' xc':Nat} {p:Bool} {k l K n:Nat} {w:World} {vx:Value} {x:Nat→Rat} {r:RwX}(hr:RwN k w ⟨xA0,xn0,xc0,xs,⟨xb,xA,xn,xc,xb',xA',xn',xc'⟩⟩ r)(hx:RowQ p l w vx n x)(hn:r.coef.n=n)(hk:k≤10000)(hl:l≤10000)(h1:1≤k)(h2:1≤l)(hK : ∀i,i≤n→BQ K (dotF r.coef.q x i))(hK1:1≤K)(hK2:K≤40000)(hs:r.s=0) :
 Calls Tryz.prog 60 #[(.agg #[.slice xA0 xn0 xc0,.int .i64 xs,.bool xb,.slice xA xn xc,.bool xb',.slice xA' xn' xc']),vx] w fun e w'=>e = .returned (.bool (holdB r n x))∧Below w.heap.size w w':=by
 obtain⟨e1,hrng,hco,hrh⟩:=hr
 dsimp only at e1
 have exs:xs=0:=e1.trans hs
 subst exs
 clear e1
 obtain⟨A,cx,rfl,_,hn0⟩:=hx.len
 have HCo:=Lib.hid (show RowQ false k w (.slice xA0 xn0 xc0) n r.coef.q from hn▸hco.rowQ)
 have HX:=Lib.hid hx
 have HRh:=Lib.hid (show LimQ k w (.agg #[.bool xb,.slice xA xn xc,.bool xb',.slice xA' xn' xc']) r.h from⟨_,_,hrh,rfl⟩)
 have HKK:=Lib.hid hK
 have HS:Hid (holdB r n x=decide (cmpQ (dotF r.coef.q x n) r.h≤0)):=by
  show holdB r n x=_
  unfold holdB
  rw [decide_eq_decide]
  unfold HoldX
  rw [if_pos hs]
  exact cmpQ_le.symm
 clear hx hco hrh hK hs  hrng
 have x_0:=HX
 have h_0:=HRh
 have c_0:=HCo
 clear HX HRh HCo
 go_enter Tryz.func60,Tryz.ntmps60
 go_wp2_with fail
 refine Calls.mono (ldot (c_0.out.alloc_ _) (x_0.out.alloc_ _) hk hl h1 h2 HKK.out hK1 hK2) ?_
 rintro e w1 ⟨v,rfl,h,hb⟩
 obtain⟨b1,A1,n1,c1,d1,B1,m1,k1,rfl,-,-,-,-,-⟩:=h.form
 have hB:=bun (hb)
 have h_1:=Lib.hid (h_0.out.below hB)
 have Kp_1:=Lib.hid (show Blk w1 (w.heap.size) 60 #[.slice xA0 xn0 xc0,.int .i64 0,.bool xb,.slice xA xn xc,.bool xb',.slice xA' xn' xc'] from(Blk.new _ _ jupy _ _).below hb)
 have d_1:=Lib.hid (h.limQ (HKK.out n (Nat.le_refl _)))
 have HB_1:=Lib.hid (hB)
 have hs_1:w.heap.size≤w1.heap.size:=HB_1.out.size
 have hz_1:w.heap.size+1≤w1.heap.size := jrv7
 clear hB hb x_0 h_0 c_0
 obtain⟨p10,p11,p12,p13,p14,p15,l1⟩:=Kp_1.out.use6
 go_wp2_with fail
 refine Calls.mono (Calls.mono (q_cmp (d_1.out.alloc_ _) (h_1.out.alloc_ _) j0i3 j0i3 hK1 h1) (fun e w' h=>h)) ?_
 rintro e w2 ⟨rfl,hb⟩
 obtain⟨z,hz⟩ : ∃z,z=cmpQ (dotF r.coef.q x n) r.h:=⟨_,rfl⟩
 have hzr:=cmpQ_rng (dotF r.coef.q x n) r.h
 have HS':=HS.out
 rw [← hz] at HS' hzr ⊢
 have HS2:=Lib.hid HS'
 clear HS HS' hz
 have hB:=bun (hb)
 have h_2:=Lib.hid (h_1.out.below hB)
 have d_2:=Lib.hid (d_1.out.below hB)
 have Kp_2:=Lib.hid (Kp_1.out.below hB)
 have Kd_2:=Lib.hid (show Blk w2 (w1.heap.size) 36 #[.bool b1,.slice A1 n1 c1,.bool d1,.slice B1 m1 k1] from(Blk.new _ _ jupy _ _).below hb)
 have HB_2:=Lib.hid (below_trans HB_1.out hB)
 have hs_2:w.heap.size≤w2.heap.size:=HB_2.out.size
 have hz_2:w1.heap.size+1≤w2.heap.size := jrv7
 clear hB hb h_1 d_1 Kp_1 HB_1 p10 p11 p12 p13 p14 p15 l1
 obtain⟨p20,p21,p22,p23,p24,p25,l2⟩:=Kp_2.out.use6
 go_wp2
 go_ret
 exact⟨by rw [HS2.out];first | rfl | (simp;done) | (by_cases hz:z=0 <;> simp [hz]),HB_2.out⟩
set_option maxRecDepth 100000 in
set_option maxHeartbeats 2000000 in
theorem phold_2 {xA0:Option Addr} {xn0 xc0:Nat} {xs:Int} {xb:Bool} {xA:Option Addr} {xn xc:Nat} {xb':Bool} {xA':Option Addr} {xn' xc':Nat} {p:Bool} {k l K n:Nat} {w:World} {vx:Value} {x:Nat→Rat} {r:RwX}(hr:RwN k w ⟨xA0,xn0,xc0,xs,⟨xb,xA,xn,xc,xb',xA',xn',xc'⟩⟩ r)(hx:RowQ p l w vx n x)(hn:r.coef.n=n)(hk:k≤10000)(hl:l≤10000)(h1:1≤k)(h2:1≤l)(hK : ∀i,i≤n→BQ K (dotF r.coef.q x i))(hK1:1≤K)(hK2:K≤40000)(hs:r.s=2) :
 Calls Tryz.prog 60 #[(.agg #[.slice xA0 xn0 xc0,.int .i64 xs,.bool xb,.slice xA xn xc,.bool xb',.slice xA' xn' xc']),vx] w fun e w'=>e = .returned (.bool (holdB r n x))∧Below w.heap.size w w':=by
 obtain⟨e1,hrng,hco,hrh⟩:=hr
 dsimp only at e1
 have exs:xs=2:=e1.trans hs
 subst exs
 clear e1
 obtain⟨A,cx,rfl,_,hn0⟩:=hx.len
 have HCo:=Lib.hid (show RowQ false k w (.slice xA0 xn0 xc0) n r.coef.q from hn▸hco.rowQ)
 have HX:=Lib.hid hx
 have HRh:=Lib.hid (show LimQ k w (.agg #[.bool xb,.slice xA xn xc,.bool xb',.slice xA' xn' xc']) r.h from⟨_,_,hrh,rfl⟩)
 have HKK:=Lib.hid hK
 have HS:Hid (holdB r n x=decide (0≤cmpQ (dotF r.coef.q x n) r.h)):=by
  show holdB r n x=_
  unfold holdB
  rw [decide_eq_decide]
  unfold HoldX
  rw [if_neg j0i3,if_pos hs]
  exact cmpQ_ge.symm
 clear hx hco hrh hK hs  hrng
 have x_0:=HX
 have h_0:=HRh
 have c_0:=HCo
 clear HX HRh HCo
 go_enter Tryz.func60,Tryz.ntmps60
 go_wp2_with fail
 refine Calls.mono (ldot (c_0.out.alloc_ _) (x_0.out.alloc_ _) hk hl h1 h2 HKK.out hK1 hK2) ?_
 rintro e w1 ⟨v,rfl,h,hb⟩
 obtain⟨b1,A1,n1,c1,d1,B1,m1,k1,rfl,-,-,-,-,-⟩:=h.form
 have hB:=bun (hb)
 have h_1:=Lib.hid (h_0.out.below hB)
 have Kp_1:=Lib.hid (show Blk w1 (w.heap.size) 60 #[.slice xA0 xn0 xc0,.int .i64 2,.bool xb,.slice xA xn xc,.bool xb',.slice xA' xn' xc'] from(Blk.new _ _ jupy _ _).below hb)
 have d_1:=Lib.hid (h.limQ (HKK.out n (Nat.le_refl _)))
 have HB_1:=Lib.hid (hB)
 have hs_1:w.heap.size≤w1.heap.size:=HB_1.out.size
 have hz_1:w.heap.size+1≤w1.heap.size := jrv7
 clear hB hb x_0 h_0 c_0
 obtain⟨p10,p11,p12,p13,p14,p15,l1⟩:=Kp_1.out.use6
 go_wp2_with fail
 refine Calls.mono (Calls.mono (q_cmp (d_1.out.alloc_ _) (h_1.out.alloc_ _) j0i3 j0i3 hK1 h1) (fun e w' h=>h)) ?_
 rintro e w2 ⟨rfl,hb⟩
 obtain⟨z,hz⟩ : ∃z,z=cmpQ (dotF r.coef.q x n) r.h:=⟨_,rfl⟩
 have hzr:=cmpQ_rng (dotF r.coef.q x n) r.h
 have HS':=HS.out
 rw [← hz] at HS' hzr ⊢
 have HS2:=Lib.hid HS'
 clear HS HS' hz
 have hB:=bun (hb)
 have h_2:=Lib.hid (h_1.out.below hB)
 have d_2:=Lib.hid (d_1.out.below hB)
 have Kp_2:=Lib.hid (Kp_1.out.below hB)
 have Kd_2:=Lib.hid (show Blk w2 (w1.heap.size) 36 #[.bool b1,.slice A1 n1 c1,.bool d1,.slice B1 m1 k1] from(Blk.new _ _ jupy _ _).below hb)
 have HB_2:=Lib.hid (below_trans HB_1.out hB)
 have hs_2:w.heap.size≤w2.heap.size:=HB_2.out.size
 have hz_2:w1.heap.size+1≤w2.heap.size := jrv7
 clear hB hb h_1 d_1 Kp_1 HB_1 p10 p11 p12 p13 p14 p15 l1
 obtain⟨p20,p21,p22,p23,p24,p25,l2⟩:=Kp_2.out.use6
 go_wp2
 go_ret
 exact⟨by rw [HS2.out];first | rfl | (simp;done) | (by_cases hz:z=0 <;> simp [hz]),HB_2.out⟩
set_option maxRecDepth 100000 in
set_option maxHeartbeats 2000000 in
theorem phold_n {xA0:Option Addr} {xn0 xc0:Nat} {xs:Int} {xb:Bool} {xA:Option Addr} {xn xc:Nat} {xb':Bool} {xA':Option Addr} {xn' xc':Nat} {p:Bool} {k l K n:Nat} {w:World} {vx:Value} {x:Nat→Rat} {r:RwX}(hr:RwN k w ⟨xA0,xn0,xc0,xs,⟨xb,xA,xn,xc,xb',xA',xn',xc'⟩⟩ r)(hx:RowQ p l w vx n x)(hn:r.coef.n=n)(hk:k≤10000)(hl:l≤10000)(h1:1≤k)(h2:1≤l)(hK : ∀i,i≤n→BQ K (dotF r.coef.q x i))(hK1:1≤K)(hK2:K≤40000)(hs:r.s≠0)(hs2:r.s≠2) :
 Calls Tryz.prog 60 #[(.agg #[.slice xA0 xn0 xc0,.int .i64 xs,.bool xb,.slice xA xn xc,.bool xb',.slice xA' xn' xc']),vx] w fun e w'=>e = .returned (.bool (holdB r n x))∧Below w.heap.size w w':=by
 obtain⟨e1,hrng,hco,hrh⟩:=hr
 dsimp only at e1
 have hxs0:xs≠0:=by rw [e1];exact hs
 have hxs2:xs≠2:=by rw [e1];exact hs2
 have E1:=Lib.hid e1
 clear e1
 obtain⟨A,cx,rfl,_,hn0⟩:=hx.len
 have HCo:=Lib.hid (show RowQ false k w (.slice xA0 xn0 xc0) n r.coef.q from hn▸hco.rowQ)
 have HX:=Lib.hid hx
 have HRh:=Lib.hid (show LimQ k w (.agg #[.bool xb,.slice xA xn xc,.bool xb',.slice xA' xn' xc']) r.h from⟨_,_,hrh,rfl⟩)
 have HKK:=Lib.hid hK
 have HS:Hid (holdB r n x=decide (cmpQ (dotF r.coef.q x n) r.h=0)):=by
  show holdB r n x=_
  unfold holdB
  rw [decide_eq_decide]
  unfold HoldX
  rw [if_neg hs,if_neg hs2]
  exact cmpQ_nil.symm
 clear hx hco hrh hK hs hs2 hrng
 have x_0:=HX
 have h_0:=HRh
 have c_0:=HCo
 clear HX HRh HCo
 go_enter Tryz.func60,Tryz.ntmps60
 go_wp2_with fail
 refine Calls.mono (ldot (c_0.out.alloc_ _) (x_0.out.alloc_ _) hk hl h1 h2 HKK.out hK1 hK2) ?_
 rintro e w1 ⟨v,rfl,h,hb⟩
 obtain⟨b1,A1,n1,c1,d1,B1,m1,k1,rfl,-,-,-,-,-⟩:=h.form
 have hB:=bun (hb)
 have h_1:=Lib.hid (h_0.out.below hB)
 have Kp_1:=Lib.hid (show Blk w1 (w.heap.size) 60 #[.slice xA0 xn0 xc0,.int .i64 xs,.bool xb,.slice xA xn xc,.bool xb',.slice xA' xn' xc'] from(Blk.new _ _ jupy _ _).below hb)
 have d_1:=Lib.hid (h.limQ (HKK.out n (Nat.le_refl _)))
 have HB_1:=Lib.hid (hB)
 have hs_1:w.heap.size≤w1.heap.size:=HB_1.out.size
 have hz_1:w.heap.size+1≤w1.heap.size := jrv7
 clear hB hb x_0 h_0 c_0
 obtain⟨p10,p11,p12,p13,p14,p15,l1⟩:=Kp_1.out.use6
 go_wp2_with fail
 refine Calls.mono (Calls.mono (q_cmp (d_1.out.alloc_ _) (h_1.out.alloc_ _) j0i3 j0i3 hK1 h1) (fun e w' h=>h)) ?_
 rintro e w2 ⟨rfl,hb⟩
 obtain⟨z,hz⟩ : ∃z,z=cmpQ (dotF r.coef.q x n) r.h:=⟨_,rfl⟩
 have hzr:=cmpQ_rng (dotF r.coef.q x n) r.h
 have HS':=HS.out
 rw [← hz] at HS' hzr ⊢
 have HS2:=Lib.hid HS'
 clear HS HS' hz
 have hB:=bun (hb)
 have h_2:=Lib.hid (h_1.out.below hB)
 have d_2:=Lib.hid (d_1.out.below hB)
 have Kp_2:=Lib.hid (Kp_1.out.below hB)
 have Kd_2:=Lib.hid (show Blk w2 (w1.heap.size) 36 #[.bool b1,.slice A1 n1 c1,.bool d1,.slice B1 m1 k1] from(Blk.new _ _ jupy _ _).below hb)
 have HB_2:=Lib.hid (below_trans HB_1.out hB)
 have hs_2:w.heap.size≤w2.heap.size:=HB_2.out.size
 have hz_2:w1.heap.size+1≤w2.heap.size := jrv7
 clear hB hb h_1 d_1 Kp_1 HB_1 p10 p11 p12 p13 p14 p15 l1
 obtain⟨p20,p21,p22,p23,p24,p25,l2⟩:=Kp_2.out.use6
 go_wp2
 go_ret
 exact⟨by rw [HS2.out];first | rfl | (simp;done) | (by_cases hz:z=0 <;> simp [hz]),HB_2.out⟩
theorem phold {p:Bool} {k l K n:Nat} {w:World} {vx:Value} {x:Nat→Rat} {x6:Rw6} {r:RwX}(hr:RwN k w x6 r)(hx:RowQ p l w vx n x)(hn:r.coef.n=n)(hk:k≤10000)(hl:l≤10000)(h1:1≤k)(h2:1≤l)(hK : ∀i,i≤n→BQ K (dotF r.coef.q x i))(hK1:1≤K)(hK2:K≤40000) :
 Calls Tryz.prog 60 #[x6.val,vx] w fun e w'=>e = .returned (.bool (holdB r n x))∧Below w.heap.size w w':=by
 obtain⟨xA0,xn0,xc0,xs,⟨xb,xA,xn,xc,xb',xA',xn',xc'⟩⟩:=x6
 by_cases h0:r.s=0
 ·exact phold_0 hr hx hn hk hl h1 h2 hK hK1 hK2 h0
 ·by_cases hs2:r.s=2
  ·exact phold_2 hr hx hn hk hl h1 h2 hK hK1 hK2 hs2
  ·exact phold_n hr hx hn hk hl h1 h2 hK hK1 hK2 h0 hs2
set_option maxRecDepth 100000 in
set_option maxHeartbeats 1000000 in
theorem pful1_ {xA0:Option Addr} {xn0 xc0:Nat} {xs:Int} {xb:Bool} {xA:Option Addr} {xn xc:Nat} {xb':Bool} {xA':Option Addr} {xn' xc':Nat} {p:Bool} {k l K n gx:Nat} {w:World} {vx:Value} {x:Nat→Rat} {r:RwX}(hr:RwN k w ⟨xA0,xn0,xc0,xs,⟨xb,xA,xn,xc,xb',xA',xn',xc'⟩⟩ r)(hx:RowQ p l w vx n x)(hg:Blk w gx 22 #[vx])(hn:r.coef.n=n)(hk:k≤10000)(hl:l≤10000)(h1:1≤k)(h2:1≤l)(hK : ∀i,i≤n→BQ K (dotF r.coef.q x i))(hK1:1≤K)(hK2:K≤40000) :
 Calls Tryz.prog 59 #[(.agg #[.slice xA0 xn0 xc0,.int .i64 xs,.bool xb,.slice xA xn xc,.bool xb',.slice xA' xn' xc']),.pointer (some ⟨gx,0,none⟩)] w fun e w'=>e = .returned (.bool (!holdB r n x))∧Below w.heap.size w w':=by
 obtain⟨Ax,cx,rfl,_,_⟩:=hx.len
 have r_0:=Lib.hid hr
 have x_0:=Lib.hid hx
 have g_0:=Lib.hid hg
 have HK:=Lib.hid hK
 clear hr hx hg hK
 obtain⟨z0,zl⟩:=g_0.out.use1
 have HC:Hid (Calls Tryz.prog 60 #[(.agg #[.slice xA0 xn0 xc0,.int .i64 xs,.bool xb,.slice xA xn xc,.bool xb',.slice xA' xn' xc']),.slice Ax n cx] (w.alloc (.cells #[.slice xA0 xn0 xc0,.int .i64 xs,.bool xb,.slice xA xn xc,.bool xb',.slice xA' xn' xc'] 60)) fun e w'=>e = .returned (.bool (holdB r n x))∧Below (w.alloc (.cells #[.slice xA0 xn0 xc0,.int .i64 xs,.bool xb,.slice xA xn xc,.bool xb',.slice xA' xn' xc'] 60)).heap.size (w.alloc (.cells #[.slice xA0 xn0 xc0,.int .i64 xs,.bool xb,.slice xA xn xc,.bool xb',.slice xA' xn' xc'] 60)) w'):=phold (x6:=⟨xA0,xn0,xc0,xs,⟨xb,xA,xn,xc,xb',xA',xn',xc'⟩⟩) (RwN.alloc_ r_0.out _) (RowQ.alloc_ x_0.out _) hn hk hl h1 h2 HK.out hK1 hK2
 clear r_0 x_0 HK hn
 go_enter Tryz.func59,Tryz.ntmps59
 go_wp2_with fail
 refine Calls.mono HC.out ?_
 rintro e w2 ⟨rfl,hb⟩
 have HB2:=Lib.hid (bun hb)
 clear hb
 go_wp2
 go_ret
 exact⟨rfl,HB2.out⟩
theorem pful1 {p:Bool} {k l K n gx:Nat} {w:World} {vx:Value} {x:Nat→Rat} {x6:Rw6} {r:RwX}(hr:RwN k w x6 r)(hx:RowQ p l w vx n x)(hg:Blk w gx 22 #[vx])(hn:r.coef.n=n)(hk:k≤10000)(hl:l≤10000)(h1:1≤k)(h2:1≤l)(hK : ∀i,i≤n→BQ K (dotF r.coef.q x i))(hK1:1≤K)(hK2:K≤40000) :
 Calls Tryz.prog 59 #[x6.val,.pointer (some ⟨gx,0,none⟩)] w fun e w'=>e = .returned (.bool (!holdB r n x))∧Below w.heap.size w w':=by
 obtain⟨xA0,xn0,xc0,xs,⟨xb,xA,xn,xc,xb',xA',xn',xc'⟩⟩:=x6
 exact pful1_ hr hx hg hn hk hl h1 h2 hK hK1 hK2
end Go.Proofs.YtgilnmhejjpleaaGreat
