/- Contracts: take. -/
import Derived.Test.YtgilnmhejjpleaaGreatPLs
namespace Go.Proofs.YtgilnmhejjpleaaGreat
open Go.RowKit
def Comb(a b x:Int)(fa gb F:Nat→Nat)(k:Nat):Prop :=
 -2147483648≤x∧x<2147483648∧(∀j,j<k→F j<4294967296)∧(num 4294967296 F k:Int)+x*4294967296 ^ k=a*num 4294967296 fa k+b*num 4294967296 gb k
theorem Comb.start(a b:Int)(fa gb F:Nat→Nat):Comb a b 0 fa gb F 0:=⟨by omega,by omega,fun _ h=>absurd h j0a,by simp [num]⟩
def Fac(a b:Int):Prop:=(0≤a∧a<2147483648∧b≤0∧ -2147483648<b)∨(a≤0∧ -2147483648<a∧0≤b∧b<2147483648)
theorem prod_b {a:Int} {m:Nat}(h0:0≤a)(h1:a<2147483648)(hm:m<4294967296):0≤a*(m:Int)∧a*(m:Int)≤9223372030412324865:=by
 refine⟨Int.mul_nonneg h0 j0a,?_⟩
 have:a*(m:Int)≤2147483647*4294967295:=Int.mul_le_mul j0a j0a j0a j0a
 omega
theorem Fac.prods {a b:Int}(h:Fac a b) {m n:Nat}(hm:m<4294967296)(hn:n<4294967296) :
 -9223372030412324865≤a*(m:Int)∧a*(m:Int)≤9223372030412324865∧ -9223372030412324865≤b*(n:Int)∧b*(n:Int)≤9223372030412324865∧ -9223372030412324865≤a*(m:Int)+b*(n:Int)∧a*(m:Int)+b*(n:Int)≤9223372030412324865:=by
 rcases h with ⟨h1,h2,h3,h4⟩ | ⟨h1,h2,h3,h4⟩
 ·have p:=prod_b h1 h2 hm
  have q:=prod_b (a := -b) j0a j0a hn
  rw [Int.neg_mul] at q
  omega
 ·have p:=prod_b h3 h4 hn
  have q:=prod_b (a := -a) j0a j0a hm
  rw [Int.neg_mul] at q
  omega
theorem Comb.step {a b x Z:Int} {fa gb F:Nat→Nat} {k zn:Nat}(h:Comb a b x fa gb F k)(hf:Fac a b)(h1:fa k<4294967296)(h2:gb k<4294967296)(hZ:Z=x+(a*(fa k:Int)+b*(gb k:Int)))(hz:Z % 4294967296=(zn:Int)) :
 Comb a b (Z / 4294967296) fa gb (upd F k zn) (k+1):=by
 obtain⟨c1,c2,c3,c4⟩:=h
 obtain⟨p1,p2,p3,p4,p5,p6⟩:=hf.prods h1 h2
 have hzn:zn<4294967296 := j0a
 refine⟨by omega,by omega,fun j hj=>?_,?_⟩
 ·by_cases e:j=k
  ·subst e;rw [upd_same];exact hzn
  ·rw [upd_ne _ _ _ e];exact c3 j j0a
 ·rw [num_succ,num_succ,num_succ,upd_same,num_upd _ _ (Nat.le_refl _)]
  have e:Z=zn+4294967296*(Z / 4294967296) := j0a
  generalize Z / 4294967296=q at *
  have hp:(4294967296:Int) ^ (k+1)=4294967296 ^ k*4294967296:=Int.pow_succ ..
  have hc:((4294967296 ^ k:Nat):Int)=4294967296 ^ k:=by rw [Int.natCast_pow];rfl
  rw [Int.natCast_add,Int.natCast_add,Int.natCast_add,Int.natCast_mul,Int.natCast_mul,Int.natCast_mul,hp,hc]
  generalize (4294967296:Int) ^ k=L at *
  have:x=zn+4294967296*q - (a*(fa k:Int)+b*(gb k:Int)) := j0a
  subst this
  grind
theorem Comb.end_ {a b x:Int} {fa gb F:Nat→Nat} {n N:Nat}(h:Comb a b x fa gb F n)(hN:a*num 4294967296 fa n+b*num 4294967296 gb n=(N:Int))(hl:N<4294967296 ^ n):num 4294967296 F n=N:=by
 obtain⟨c1,c2,c3,c4⟩:=h
 have h1:=num_lt (B:=4294967296) j0a n c3
 rw [hN] at c4
 have hc:(4294967296:Int) ^ n=((4294967296 ^ n:Nat):Int):=by rw [Int.natCast_pow];rfl
 rw [hc] at c4
 generalize 4294967296 ^ n=L at *
 generalize num 4294967296 F n=M at *
 have hx:x=0:=by
  rcases Int.lt_trichotomy x 0 with h | h | h
  ·have:x*(L:Int)≤ -1*(L:Int):=Int.mul_le_mul_of_nonneg_right j0a j0a
   omega
  ·exact h
  ·have:1*(L:Int)≤x*(L:Int):=Int.mul_le_mul_of_nonneg_right j0a j0a
   omega
 subst hx
 omega
theorem num_cut {f:Nat→Nat} {m n:Nat}(hm:m≤n)(h:num 4294967296 f n<4294967296 ^ m):num 4294967296 f m=num 4294967296 f n:=by
 obtain⟨k,rfl⟩ : ∃k,n=m+k:=⟨n - m,by omega⟩
 rw [num_add] at h ⊢
 generalize num 4294967296 (fun j=>f (m+j)) k=r at *
 generalize 4294967296 ^ m=L at *
 rcases Nat.eq_zero_or_pos r with h0 | h0
 ·subst h0;simp
 ·have:L*1≤L*r:=Nat.mul_le_mul_left _ h0
  omega
def TInv(B:Nat)(w wr:World)(ga sa gb sb m g3 k:Nat)(a b c d x y:Int)(fa fb Fa Fb G:Nat→Nat):Prop :=
 Row .u32 117 wr ga sa Fa∧Row .u32 117 wr gb sb Fb∧Blk wr g3 149 #[.int .i64 a,.int .i64 b,.int .i64 c,.int .i64 d]∧Below B w wr∧(∀j,k≤j→Fa j=fa j)∧(∀j,k≤j→Fb j=fb j)∧
  Comb a b x fa (limbOf fb m) Fa k∧Comb c d y fa (limbOf fb m) G k∧(∀j,j<k→j<m→Fb j=G j)
theorem TInv.drewN {B:Nat} {w wr:World} {ga sa gb sb m g3 k:Nat} {a b c d x y:Int} {fa fb Fa Fb G:Nat→Nat}(h:TInv B w wr ga sa gb sb m g3 k a b c d x y fa fb Fa Fb G)(q:Nat):TInv B w (wr.drewN q) ga sa gb sb m g3 k a b c d x y fa fb Fa Fb G:=by
 obtain⟨h1,h2,h3,h4,h5⟩:=h
 exact⟨h1.keep (Below.drewN_ (Below.refl _ _) _),h2.keep (Below.drewN_ (Below.refl _ _) _),h3.below (Below.drewN_ (Below.refl _ _) _),Below.drewN_ h4 _,h5⟩
theorem TInv.stepA {B:Nat} {w wr:World} {ga sa gb sb m g3 k:Nat} {a b c d x y:Int} {fa fb Fa Fb G:Nat→Nat}(h:TInv B w wr ga sa gb sb m g3 k a b c d x y fa fb Fa Fb G)(hab:ga≠gb)(ha3:ga≠g3)(hBa:B≤ga)(hk:m≤k)
 (f1:Fac a b) (f2:Fac c d) (h1:fa k<4294967296) (h2:limbOf fb m k<4294967296) {X Y:Int} {xn yn:Nat} (hX:X=x+(a*(fa k:Int)+b*(limbOf fb m k:Int))) (hx:X % 4294967296=(xn:Int)) (hY:Y=y+(c*(fa k:Int)+d*(limbOf fb m k:Int))) (hy:Y % 4294967296=(yn:Int)) :
 TInv B w (wr.setCell ⟨ga,k,none⟩ (.int .u32 xn)) ga sa gb sb m g3 (k+1) a b c d (X / 4294967296) (Y / 4294967296) fa fb (upd Fa k xn) Fb (upd G k yn):=by
 obtain⟨i1,i2,i3,i4,i5,i6,i7,i8,i9⟩:=h
 refine⟨i1.set_ _ _,i2.wr (Ne.symm hab) (Wr.set_ _ _ _ _),i3.other (Ne.symm ha3) _ _,i4.setCell hBa _,fun j hj=>?_,fun j hj=>i6 j j0a,i7.step f1 h1 h2 hX hx,i8.step f2 h1 h2 hY hy,fun j hj hm=>?_⟩
 ·rw [upd_ne _ _ _ j0a];exact i5 j j0a
 ·rw [upd_ne _ _ _ j0a];exact i9 j j0a hm
theorem TInv.stepB {B:Nat} {w wr:World} {ga sa gb sb m g3 k:Nat} {a b c d x y:Int} {fa fb Fa Fb G:Nat→Nat}(h:TInv B w wr ga sa gb sb m g3 k a b c d x y fa fb Fa Fb G)(hab:ga≠gb)(ha3:ga≠g3)(hb3:gb≠g3)(hBa:B≤ga)(hBb:B≤gb)
 (f1:Fac a b) (f2:Fac c d) (h1:fa k<4294967296) (h2:limbOf fb m k<4294967296) {X Y:Int} {xn yn:Nat} (hX:X=x+(a*(fa k:Int)+b*(limbOf fb m k:Int))) (hx:X % 4294967296=(xn:Int)) (hY:Y=y+(c*(fa k:Int)+d*(limbOf fb m k:Int))) (hy:Y % 4294967296=(yn:Int)) :
 TInv B w ((wr.setCell ⟨ga,k,none⟩ (.int .u32 xn)).setCell ⟨gb,k,none⟩ (.int .u32 yn)) ga sa gb sb m g3 (k+1) a b c d (X / 4294967296) (Y / 4294967296) fa fb (upd Fa k xn) (upd Fb k yn) (upd G k yn):=by
 obtain⟨i1,i2,i3,i4,i5,i6,i7,i8,i9⟩:=h
 refine⟨(i1.set_ _ _).wr hab (Wr.set_ _ _ _ _),(i2.wr (Ne.symm hab) (Wr.set_ _ _ _ _)).set_ _ _,(i3.other (Ne.symm ha3) _ _).other (Ne.symm hb3) _ _,(i4.setCell hBa _).setCell hBb _,fun j hj=>?_,fun j hj=>?_,i7.step f1 h1 h2 hX hx,i8.step f2 h1 h2 hY hy,fun j hj hm=>?_⟩
 ·rw [upd_ne _ _ _ j0a];exact i5 j j0a
 ·rw [upd_ne _ _ _ j0a];exact i6 j j0a
 ·by_cases e:j=k
  ·subst e;rw [upd_same,upd_same]
  ·rw [upd_ne _ _ _ e,upd_ne _ _ _ e];exact i9 j j0a hm
def TakePost(B:Nat)(w w':World)(e:Ending)(ga sa n gb sb m X Y:Nat):Prop :=
 ∃Fa Fb,e = .returned (.tuple #[])∧Row .u32 117 w' ga sa Fa∧Row .u32 117 w' gb sb Fb∧Below B w w'∧(∀j,j<n→Fa j<4294967296)∧(∀j,j<m→Fb j<4294967296)∧num 4294967296 Fa n=X∧num 4294967296 Fb m=Y
theorem TInv.done {B:Nat} {w wr:World} {ga sa gb sb m g3 n:Nat} {a b c d x y:Int} {fa fb Fa Fb G:Nat→Nat}(h:TInv B w wr ga sa gb sb m g3 n a b c d x y fa fb Fa Fb G)(hm:m≤n) {X Y:Nat}
 (hX:a*num 4294967296 fa n+b*num 4294967296 fb m=(X:Int)) (hY:c*num 4294967296 fa n+d*num 4294967296 fb m=(Y:Int)) (hXl:X<4294967296 ^ n) (hYl:Y<4294967296 ^ m):TakePost B w wr (.returned (.tuple #[])) ga sa n gb sb m X Y:=by
 obtain⟨i1,i2,i3,i4,i5,i6,i7,i8,i9⟩:=h
 have e:num 4294967296 (limbOf fb m) n=num 4294967296 fb m:=num_pad n hm
 rw [← e] at hX hY
 have hYn:Y<4294967296 ^ n:=Nat.lt_of_lt_of_le hYl (Nat.pow_le_pow_right j0a hm)
 have e2:=i8.end_ hY hYn
 refine⟨Fa,Fb,rfl,i1,i2,i4,i7.2.2.1,fun j hj=>?_,i7.end_ hX hXl,?_⟩
 ·rw [i9 j j0a hj];exact i8.2.2.1 j j0a
 ·rw [num_congr (f':=G) m (fun j hj=>i9 j j0a hj),num_cut hm (by rw [e2];exact hYl),e2]
set_option maxRecDepth 100000 in
set_option maxHeartbeats 4000000 in
theorem take_any(B ga sa n ca gb sb m cb:Nat)(a b c d:Int)(fa fb:Nat→Nat)(w:World)(ra:Row .u32 117 w ga sa fa)(rb:Row .u32 117 w gb sb fb)(hna:n≤sa)(hmb:m≤sb)(hmn:m≤n)(hab:ga≠gb)(hBa:B≤ga)(hBb:B≤gb)
 (hfa : ∀j,j<n→fa j<4294967296) (hfb : ∀j,j<m→fb j<4294967296) (f1:Fac a b) (f2:Fac c d) (hn:n≤1000000000) {X Y:Nat}
 (hX:a*num 4294967296 fa n+b*num 4294967296 fb m=(X:Int)) (hY:c*num 4294967296 fa n+d*num 4294967296 fb m=(Y:Int)) (hXl:X<4294967296 ^ n) (hYl:Y<4294967296 ^ m) :
 Calls Tryz.prog 143 #[.agg #[.int .i64 a,.int .i64 b,.int .i64 c,.int .i64 d],.slice (some ⟨ga,0,none⟩) n ca,.slice (some ⟨gb,0,none⟩) m cb] w fun e w'=>TakePost B w w' e ga sa n gb sb m X Y:=by
 have HDN:Hid (∀wr x y Fa Fb G,TInv B w wr ga sa gb sb m w.heap.size n a b c d x y fa fb Fa Fb G→TakePost B w wr (.returned (.tuple #[])) ga sa n gb sb m X Y):=fun wr x y Fa Fb G h=>h.done hmn hX hY hXl hYl
 have la:=ra.lt
 have lb:=rb.lt
 have I0:Hid (TInv B w (w.alloc (.cells #[.int .i64 a,.int .i64 b,.int .i64 c,.int .i64 d] 149)) ga sa gb sb m w.heap.size 0 a b c d 0 0 fa fb fa fb (fun _=>0)) :=
  ⟨ra.keep (below_new _ _),rb.keep (below_new _ _),Blk.new _ _ rfl _ _,(Below.refl _ _).alloc j0a _,fun _ _=>rfl,fun _ _=>rfl,Comb.start _ _ _ _ _,Comb.start _ _ _ _ _,fun j hj=>absurd hj j0a⟩
 have HFA:=Lib.hid hfa
 have HFB:=Lib.hid hfb
 have F1:=Lib.hid f1
 have F2:=Lib.hid f2
 clear ra rb hfa hfb f1 f2 hX hY hXl hYl
 go_enter Tryz.func143,Tryz.ntmps143
 go_wp2
 generalize hG:w.heap.size=g3 at *
 go_loopw [6,7,13] (fun v6 v7 v13 wr => ∃k x y Fa Fb G,k≤n∧v6 = .int .i64 x∧v7 = .int .i64 y∧v13 = .int .i64 (k:Nat)∧TInv B w wr ga sa gb sb m g3 k a b c d x y fa fb Fa Fb G) (fun _ _ v13 _=>n - (intOf v13).toNat)
 case atStart=>exact⟨0,0,0,fa,fb,_,Nat.zero_le _,rfl,rfl,rfl,I0.out⟩
 case round =>
  obtain⟨k,x,y,Fa,Fb,G,hk,rfl,rfl,rfl,hinv⟩:=hrel
  clear I0
  by_cases hlt:k<n
  ·have HI:=Lib.hid hinv
   have hcell:=hinv.1.cell (j:=k) j0a
   rw [hinv.2.2.2.2.1 k (Nat.le_refl _)] at hcell
   have b0:=HFA.out k hlt
   have b1:=limbOf_lt HFB.out k
   obtain⟨p1,p2,p3,p4,p5,p6⟩:=F1.out.prods b0 b1
   obtain⟨q1,q2,q3,q4,q5,q6⟩:=F2.out.prods b0 b1
   obtain⟨x1,x2,-⟩:=hinv.2.2.2.2.2.2.1
   obtain⟨y1,y2,-⟩:=hinv.2.2.2.2.2.2.2.1
   have hfb' : ∀j,j<m→Fb j<4294967296∨j<k:=fun j hj=>by
    by_cases h:j<k
    ·exact .inr h
    ·left;rw [hinv.2.2.2.2.2.1 j j0a];exact HFB.out j hj
   have hFb : ∀j,j<m→Fb j<4294967296:=fun j hj=>by
    by_cases h:j<k
    ·rw [hinv.2.2.2.2.2.2.2.2 j h hj];exact hinv.2.2.2.2.2.2.2.1.2.2.1 j h
    ·rw [hinv.2.2.2.2.2.1 j j0a];exact HFB.out j hj
   have el:limbOf Fb m k=limbOf fb m k:=by
    unfold limbOf;split
    ·exact hinv.2.2.2.2.2.1 k (Nat.le_refl _)
    ·rfl
   have DL:Hid (∀w',Rd .u32 w' (some ⟨gb,0,none⟩) m Fb→Calls Tryz.prog 144 #[.slice (some ⟨gb,0,none⟩) m cb,.int .i64 (k:Nat)] w' fun e w2=>e = .returned (.int .u64 (limbOf fb m k:Nat))∧w2=w'):=fun w' hr=>by
    rw [← el];exact limb_any _ m cb k Fb w' hr hFb
   have HRB:=Lib.hid (hinv.2.1.rd0 hmb)
   clear hinv hfb' hFb el
   obtain⟨u,hu⟩ : ∃u,u=fa k:=⟨_,rfl⟩
   obtain⟨v,hv⟩ : ∃v,v=limbOf fb m k:=⟨_,rfl⟩
   rw [← hu] at hcell b0 p1 p2 p5 p6 q1 q2 q5 q6
   rw [← hv] at b1 p3 p4 p5 p6 q3 q4 q5 q6 DL
   have HU:=Lib.hid hu
   have HV:=Lib.hid hv
   have hiu:IntKind.i64.wrap (u:Int)=(u:Int):=IntWalk.i64_in _ j0a
   have hiv:IntKind.i64.wrap (v:Int)=(v:Int):=IntWalk.i64_in _ j0a
   clear hu hv
   go_wp2
   go_quiet ((go_at_call 144;exact Calls.quiet_of_same (DL.out _ HRB.out)))
   generalize hW:World.drewN wr _=w2
   have HI2:=Lib.hid (show TInv B w w2 ga sa gb sb m g3 k a b c d x y fa fb Fa Fb G from by rw [← hW];exact HI.out.drewN _)
   obtain⟨c0,c1,c2,c3⟩:=HI2.out.2.2.1.cells4
   have ca0:=HI2.out.1.cell (j:=k) j0a
   have ca1:=HI2.out.1.frozen k
   have l3:=HI2.out.2.2.1.lt
   clear hW HI hcell DL HRB hiu hiv
   obtain⟨XX,hXX⟩ : ∃XX,XX=x+(a*(u:Int)+b*(v:Int)):=⟨_,rfl⟩
   obtain⟨YY,hYY⟩ : ∃YY,YY=y+(c*(u:Int)+d*(v:Int)):=⟨_,rfl⟩
   obtain⟨xn,hxn⟩ : ∃xn:Nat,XX % 4294967296=(xn:Int):=⟨(XX % 4294967296).toNat,by omega⟩
   obtain⟨yn,hyn⟩ : ∃yn:Nat,YY % 4294967296=(yn:Int):=⟨(YY % 4294967296).toNat,by omega⟩
   have bX1 : -9223372036854775808≤XX := j0a
   have bX2:XX≤9223372036854775807 := j0a
   have bY1 : -9223372036854775808≤YY := j0a
   have bY2:YY≤9223372036854775807 := j0a
   have hwx:IntKind.u32.wrap XX=(xn:Int):=by rw [IntKind.wrap_u32];exact hxn
   have hwy:IntKind.u32.wrap YY=(yn:Int):=by rw [IntKind.wrap_u32];exact hyn
   by_cases hkm:k<m
   ·have cb0 : ∀z,(w2.setCell ⟨ga,k,none⟩ z).cell? ⟨gb,k,none⟩=some (.int .u32 (Fb k:Nat)):=fun z=>(HI2.out.2.1.wr (Ne.symm hab) (Wr.set_ _ _ _ z)).cell (j:=k) j0a
    have cb1 : ∀z,(w2.setCell ⟨ga,k,none⟩ z).frozen? ⟨gb,k,none⟩=false:=fun z=>(HI2.out.2.1.wr (Ne.symm hab) (Wr.set_ _ _ _ z)).frozen k
    have HS:=Lib.hid (HI2.out.stepB hab j0a j0a hBa hBb F1.out F2.out (by rw [← HU.out];exact b0) (by rw [← HV.out];exact b1) (by rw [← HU.out,← HV.out];exact hXX) hxn (by rw [← HU.out,← HV.out];exact hYY) hyn)
    have hXX':=hXX.symm
    have hYY':=hYY.symm
    clear hXX hYY hxn hyn
    go_wp2
    go_roundw
    case rel=>exact⟨k+1,_,_,_,_,_,by omega,rfl,rfl,by go_num,HS.out⟩
    case measure=>simp [intOf];omega
   ·have v0:v=0:=by rw [HV.out];unfold limbOf;rw [if_neg hkm]
    have HS:=Lib.hid (HI2.out.stepA hab j0a hBa j0a F1.out F2.out (by rw [← HU.out];exact b0) (by rw [← HV.out];exact b1) (by rw [← HU.out,← HV.out];exact hXX) hxn (by rw [← HU.out,← HV.out];exact hYY) hyn)
    have hXX':=hXX.symm
    have hYY':=hYY.symm
    clear hXX hYY hxn hyn v0
    go_wp2
    go_roundw
    case rel=>exact⟨k+1,_,_,_,_,_,by omega,rfl,rfl,by go_num,HS.out⟩
    case measure=>simp [intOf];omega
  ·obtain rfl:k=n:=by omega
   go_wp2
   go_end0
   exact HDN.out _ _ _ _ _ _ hinv
end Go.Proofs.YtgilnmhejjpleaaGreat
