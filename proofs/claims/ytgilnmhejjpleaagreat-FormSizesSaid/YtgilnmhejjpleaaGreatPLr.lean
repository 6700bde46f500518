/- Lehmer's steps: what they keep. Nothing of the program is in here. -/
import Derived.Test.YtgilnmhejjpleaaGreatPNat0
import Derived.Test.YtgilnmhejjpleaaGreatPNatA
import Derived.IntWalk
namespace Go.Proofs.YtgilnmhejjpleaaGreat
theorem j0w {P:Prop}(h:P:=by grind):P:=h
def LI(s x0 y0 x y P Q R T:Int):Prop :=
 0≤P∧0≤Q∧0≤R∧1≤T∧x=s*(P*x0 - Q*y0)∧y=s*(T*y0 - R*x0)∧P*T - Q*R=s∧s*s=1∧R≤T∧P≤Q+(T - R)∧1≤P+R∧0≤y∧y≤x
theorem LI.start {x0 y0:Int}(h0:0≤y0)(h:y0≤x0):LI 1 x0 y0 x0 y0 1 0 0 1 :=
 ⟨by omega,by omega,by omega,by omega,by omega,by omega,by omega,by omega,by omega,by omega,by omega,h0,h⟩
theorem LI.back {s x0 y0 x y P Q R T:Int}(h:LI s x0 y0 x y P Q R T):T*x+Q*y=x0∧R*x+P*y=y0:=by
 obtain⟨_,_,_,_,h1,h2,h3,h4,_⟩:=h
 constructor
 ·have:T*x+Q*y=(s*s)*x0:=by subst h1 h2;rw [← h3];grind
  rw [this,h4,Int.one_mul]
 ·have:R*x+P*y=(s*s)*y0:=by subst h1 h2;rw [← h3];grind
  rw [this,h4,Int.one_mul]
theorem LI.step {s x0 y0 x y P Q R T k:Int}(h:LI s x0 y0 x y P Q R T)(hk:1≤k)(hr0:0≤x - k*y)(hr1:x - k*y≤y) :
 LI (-s) x0 y0 y (x - k*y) R T (P+k*R) (Q+k*T):=by
 obtain⟨hP,hQ,hR,hT,h1,h2,h3,h4,h5,h6,h7,h8,h9⟩:=h
 have e1:0≤(k - 1)*R:=Int.mul_nonneg j0a hR
 have e2:0≤(k - 1)*(T - R):=Int.mul_nonneg j0a j0a
 have e3:(k - 1)*(T - R)=k*T - k*R - T+R := j0w
 have e4:(k - 1)*R=k*R - R := j0w
 have e5:0≤(k - 1)*T:=Int.mul_nonneg j0a j0a
 have e6:(k - 1)*T=k*T - T := j0w
 refine⟨hR,by omega,by omega,by omega,?_,?_,?_,?_,by omega,by omega,by omega,hr0,hr1⟩
 ·rw [h2];grind
 ·rw [h1,h2];grind
 ·rw [← h3];grind
 ·grind
theorem LI.small {s x0 y0 x y P Q R T k:Int}(h:LI s x0 y0 x y P Q R T)(hk:1≤k)(h62:x0<4611686018427387904)(hc1:Q+k*T≤x - k*y)(hc2:Q+k*T+T≤y - (x - k*y))(hr1:x - k*y≤y):Q+k*T<2147483648:=by
 have hs:=(h.step hk (by have:=h.1;obtain⟨_,hQ,_,hT,_⟩:=h;have:0≤k*T:=Int.mul_nonneg j0a j0a;omega) hr1).back.1
 obtain⟨hP,hQ,hR,hT,_⟩:=h
 have hkT:0≤k*T:=Int.mul_nonneg j0a j0a
 generalize x - k*y=z at *
 generalize hF:Q+k*T=F at *
 have hz:0≤T*z:=Int.mul_nonneg j0a j0a
 have h1:F*y≤x0 := j0a
 have h2:F*(2*F)≤F*y:=Int.mul_le_mul_of_nonneg_left j0a j0a
 by_cases hlt:F<2147483648
 ·exact hlt
 ·exfalso
  have hge:2147483648≤F := j0a
  have h3:2147483648*2147483648≤F*F:=Int.mul_le_mul hge hge j0a j0a
  have h4:F*(2*F)=2*(F*F) := j0w
  omega
theorem LI.truly {s x0 y0 x y P Q R T D a0 b0:Int}(h:LI s x0 y0 x y P Q R T)(hPQ:P≤Q)(hR1:1≤R)(hD:1≤D)(ha:0≤a0∧a0<D)(hb:0≤b0∧b0<D)(hc1:T≤y)(hc2:T+Q≤x - y) :
 ∃a b:Int,a=s*(P*(x0*D+a0) - Q*(y0*D+b0))∧b=s*(T*(y0*D+b0) - R*(x0*D+a0))∧0≤b∧b<a∧T*a+Q*b=x0*D+a0∧R*a+P*b=y0*D+b0∧a≤y0*D+b0:=by
 obtain⟨hP,hQ,hR,hT,h1,h2,h3,h4,h5,h6,h7,h8,h9⟩:=h
 obtain⟨ha0,ha1⟩:=ha
 obtain⟨hb0,hb1⟩:=hb
 refine⟨_,_,rfl,rfl,?_⟩
 have ea:s*(P*(x0*D+a0) - Q*(y0*D+b0))=x*D+s*(P*a0 - Q*b0):=by rw [h1];grind
 have eb:s*(T*(y0*D+b0) - R*(x0*D+a0))=y*D+s*(T*b0 - R*a0):=by rw [h2];grind
 have hback1:T*(s*(P*(x0*D+a0) - Q*(y0*D+b0)))+Q*(s*(T*(y0*D+b0) - R*(x0*D+a0)))=x0*D+a0:=by
  have:T*(s*(P*(x0*D+a0) - Q*(y0*D+b0)))+Q*(s*(T*(y0*D+b0) - R*(x0*D+a0)))=s*(P*T - Q*R)*(x0*D+a0) := j0w
  rw [this,h3,h4,Int.one_mul]
 have hback2:R*(s*(P*(x0*D+a0) - Q*(y0*D+b0)))+P*(s*(T*(y0*D+b0) - R*(x0*D+a0)))=y0*D+b0:=by
  have:R*(s*(P*(x0*D+a0) - Q*(y0*D+b0)))+P*(s*(T*(y0*D+b0) - R*(x0*D+a0)))=s*(P*T - Q*R)*(y0*D+b0) := j0w
  rw [this,h3,h4,Int.one_mul]
 have hs:s=1∨s = -1:=by
  have:(s - 1)*(s+1)=0 := j0w
  rcases Int.mul_eq_zero.1 this with h | h
  ·exact .inl j0a
  ·exact .inr j0a
 have p1:0≤T*b0∧T*b0≤T*(D - 1):=⟨Int.mul_nonneg j0a hb0,Int.mul_le_mul_of_nonneg_left j0a j0a⟩
 have p2:0≤R*a0∧R*a0≤R*(D - 1):=⟨Int.mul_nonneg hR ha0,Int.mul_le_mul_of_nonneg_left j0a hR⟩
 have p3:R*(D - 1)≤T*(D - 1):=Int.mul_le_mul_of_nonneg_right h5 j0a
 have p4:0≤P*a0∧P*a0≤P*(D - 1):=⟨Int.mul_nonneg hP ha0,Int.mul_le_mul_of_nonneg_left j0a hP⟩
 have p5:0≤Q*b0∧Q*b0≤Q*(D - 1):=⟨Int.mul_nonneg hQ hb0,Int.mul_le_mul_of_nonneg_left j0a hQ⟩
 have p6:P*(D - 1)≤Q*(D - 1):=Int.mul_le_mul_of_nonneg_right hPQ j0a
 have p7:T*D≤y*D:=Int.mul_le_mul_of_nonneg_right hc1 j0a
 have p8:(T+Q)*D≤(x - y)*D:=Int.mul_le_mul_of_nonneg_right hc2 j0a
 have q1:T*(D - 1)=T*D - T := j0w
 have q2:Q*(D - 1)=Q*D - Q := j0w
 have q3:(T+Q)*D=T*D+Q*D := j0w
 have q4:(x - y)*D=x*D - y*D := j0w
 have hb':0≤y*D+s*(T*b0 - R*a0):=by
  rcases hs with rfl | rfl
  ·rw [Int.one_mul];omega
  ·rw [Int.neg_mul,Int.one_mul];omega
 have hab:y*D+s*(T*b0 - R*a0)<x*D+s*(P*a0 - Q*b0):=by
  rcases hs with rfl | rfl
  ·rw [Int.one_mul,Int.one_mul];omega
  ·rw [Int.neg_mul,Int.one_mul,Int.neg_mul,Int.one_mul];omega
 rw [← ea,← eb] at hab
 rw [← eb] at hb'
 refine⟨hb',hab,hback1,hback2,?_⟩
 generalize s*(P*(x0*D+a0) - Q*(y0*D+b0))=a at *
 generalize s*(T*(y0*D+b0) - R*(x0*D+a0))=b at *
 have r1:1*a≤R*a:=Int.mul_le_mul_of_nonneg_right hR1 j0a
 have r2:0≤P*b:=Int.mul_nonneg hP hb'
 omega
theorem gcd_same {s P Q R T A B a b:Int}(ha:a=s*(P*A - Q*B))(hb:b=s*(T*B - R*A))(hA:T*a+Q*b=A)(hB:R*a+P*b=B):Int.gcd a b=Int.gcd A B:=by
 have d1:(Int.gcd a b:Int)∣A:=by
  rw [← hA]
  exact Int.dvd_add (Int.dvd_mul_of_dvd_right (Int.gcd_dvd_left ..)) (Int.dvd_mul_of_dvd_right (Int.gcd_dvd_right ..))
 have d2:(Int.gcd a b:Int)∣B:=by
  rw [← hB]
  exact Int.dvd_add (Int.dvd_mul_of_dvd_right (Int.gcd_dvd_left ..)) (Int.dvd_mul_of_dvd_right (Int.gcd_dvd_right ..))
 have d3:(Int.gcd A B:Int)∣a:=by
  rw [ha]
  exact Int.dvd_mul_of_dvd_right (Int.dvd_sub (Int.dvd_mul_of_dvd_right (Int.gcd_dvd_left ..)) (Int.dvd_mul_of_dvd_right (Int.gcd_dvd_right ..)))
 have d4:(Int.gcd A B:Int)∣b:=by
  rw [hb]
  exact Int.dvd_mul_of_dvd_right (Int.dvd_sub (Int.dvd_mul_of_dvd_right (Int.gcd_dvd_right ..)) (Int.dvd_mul_of_dvd_right (Int.gcd_dvd_left ..)))
 exact Nat.dvd_antisymm (Int.natCast_dvd_natCast.1 (Int.dvd_coe_gcd d1 d2)) (Int.natCast_dvd_natCast.1 (Int.dvd_coe_gcd d3 d4))
end Go.Proofs.YtgilnmhejjpleaaGreat
namespace Go.Proofs.YtgilnmhejjpleaaGreat
theorem limb_at : ∀ (i:Nat) (f:Nat→Nat) (n:Nat),(∀j,j<n→f j<4294967296)→num 4294967296 f n / 4294967296 ^ i % 4294967296=limbOf f n i
 | 0,f,n,hf=>by
   rcases Nat.eq_zero_or_pos n with h | h
   ·subst h;simp [num,limbOf]
   ·rw [Nat.pow_zero,Nat.div_one,num_first h,Nat.add_mul_mod_self_left,Nat.mod_eq_of_lt (hf 0 h)]
    unfold limbOf;rw [if_pos h]
 |i+1,f,n,hf=>by
  rcases Nat.eq_zero_or_pos n with h | h
  ·subst h;simp [num,limbOf]
  ·have e:num 4294967296 f n / 4294967296 ^ (i+1)=num 4294967296 (fun j=>f (j+1)) (n - 1) / 4294967296 ^ i:=by
    rw [Nat.pow_succ,Nat.mul_comm,← Nat.div_div_eq_div_mul,num_first h,Nat.add_mul_div_left _ _ j0a,Nat.div_eq_of_lt (hf 0 h),Nat.zero_add]
   rw [e,limb_at i _ (n - 1) (fun j hj=>hf (j+1) j0a)]
   unfold limbOf
   by_cases hi:i<n - 1
   ·rw [if_pos hi,if_pos j0a]
   ·rw [if_neg hi,if_neg j0a]
theorem limb_split(i:Nat)(f:Nat→Nat)(n:Nat)(hf : ∀j,j<n→f j<4294967296) :
 num 4294967296 f n / 4294967296 ^ i=limbOf f n i+4294967296*(num 4294967296 f n / 4294967296 ^ (i+1)):=by
 have h:=limb_at i f n hf
 rw [Nat.pow_succ,← Nat.div_div_eq_div_mul]
 omega
theorem window_num {f:Nat→Nat} {n s:Nat}(hf : ∀j,j<n→f j<4294967296)(hN:num 4294967296 f n / 2 ^ s<4611686018427387904) :
 (limbOf f n (s / 32)+limbOf f n (s / 32+1)*4294967296) / 2 ^ (s % 32)+limbOf f n (s / 32+2)*2 ^ (64 - s % 32)=num 4294967296 f n / 2 ^ s∧
 (limbOf f n (s / 32)+limbOf f n (s / 32+1)*4294967296) / 2 ^ (s % 32)<2 ^ (64 - s % 32):=by
 have h0:=limbOf_lt hf (s / 32)
 have h1:=limbOf_lt hf (s / 32+1)
 have e0:=limb_split (s / 32) f n hf
 have e1:=limb_split (s / 32+1) f n hf
 have e2:=limb_split (s / 32+1+1) f n hf
 have hs:s % 32<32:=Nat.mod_lt _ j0a
 have es:2 ^ s=4294967296 ^ (s / 32)*2 ^ (s % 32):=by
  rw [show(4294967296:Nat)=2 ^ 32 from by decide,← Nat.pow_mul,← Nat.pow_add]
  congr 1
  omega
 have hS:2 ^ (s % 32)*2 ^ (64 - s % 32)=18446744073709551616:=by
  rw [← Nat.pow_add,show s % 32+(64 - s % 32)=64 from j0a]
 have hSl:2 ^ (s % 32)≤2147483648:=Nat.le_trans (Nat.pow_le_pow_right j0a (show s % 32≤31 by omega)) j0e
 have hS0:0<2 ^ (s % 32):=Nat.pow_pos j0a
 rw [es,← Nat.div_div_eq_div_mul] at hN ⊢
 rw [show s / 32+2=s / 32+1+1 from rfl]
 generalize 2 ^ (s % 32)=S at *
 generalize 2 ^ (64 - s % 32)=T at *
 generalize limbOf f n (s / 32)=l0 at *
 generalize limbOf f n (s / 32+1)=l1 at *
 generalize limbOf f n (s / 32+1+1)=l2 at *
 generalize num 4294967296 f n / 4294967296 ^ (s / 32+1+1+1)=M3 at *
 generalize num 4294967296 f n / 4294967296 ^ (s / 32+1+1)=M2 at *
 generalize num 4294967296 f n / 4294967296 ^ (s / 32+1)=M1 at *
 generalize num 4294967296 f n / 4294967296 ^ (s / 32)=M at *
 have hM:M<4611686018427387904*S:=(Nat.div_lt_iff_lt_mul hS0).1 hN
 have h3:M3=0 := j0a
 subst h3
 have eM:M=l0+l1*4294967296+S*(l2*T):=by
  have:S*(l2*T)=l2*18446744073709551616:=by rw [← hS,← Nat.mul_assoc,Nat.mul_comm S l2,Nat.mul_assoc]
  omega
 constructor
 ·rw [eM,Nat.add_mul_div_left _ _ hS0]
 ·rw [Nat.div_lt_iff_lt_mul hS0,Nat.mul_comm T,hS]
  omega
theorem window_top {f:Nat→Nat} {k z:Nat}(hk:2≤k)(hf : ∀j,j<k+1→f j<4294967296)(hz:z<32)(h2:f k*2 ^ z<4294967296) :
 num 4294967296 f (k+1) / 2 ^ (32*(k+1) - z - 62)<4611686018427387904:=by
 have hl:=num_lt (B:=4294967296) (f:=f) j0a k (fun j hj=>hf j j0a)
 have hp:0<2 ^ z:=Nat.pow_pos j0a
 have e1:(4294967296:Nat)=2 ^ (32 - z)*2 ^ z:=by rw [← Nat.pow_add,show 32 - z+z=32 from j0a]
 have h3:f k+1≤2 ^ (32 - z):=by
  rw [e1] at h2
  have:=Nat.lt_of_mul_lt_mul_right h2
  omega
 have h4:num 4294967296 f (k+1)<2 ^ (32 - z)*4294967296 ^ k:=by
  rw [num_succ]
  have:(f k+1)*4294967296 ^ k≤2 ^ (32 - z)*4294967296 ^ k:=Nat.mul_le_mul_right _ h3
  rw [Nat.add_mul,Nat.one_mul] at this
  omega
 rw [Nat.div_lt_iff_lt_mul (Nat.pow_pos j0a),show(4611686018427387904:Nat)=2 ^ 62 from by decide,← Nat.pow_add]
 refine Nat.lt_of_lt_of_le h4 ?_
 rw [show(4294967296:Nat)=2 ^ 32 from by decide,← Nat.pow_mul,← Nat.pow_add]
 exact Nat.pow_le_pow_right j0a j0a
theorem or_win(a b T k:Nat)(hT:T=2 ^ k)(ha:a<T)(hb:a+b*T<18446744073709551616):Go.bits Go.BinOp.or Go.IntKind.u64 (a:Int) ((b*T:Nat):Int)=((a+b*T:Nat):Int):=by
 subst hT
 rw [u64_or_nat _ _ j0a j0a]
 congr 1
 rw [Nat.or_comm,Nat.add_comm,Nat.mul_comm b]
 exact(Nat.two_pow_add_eq_or_of_lt ha b).symm
end Go.Proofs.YtgilnmhejjpleaaGreat
namespace Go.Proofs.YtgilnmhejjpleaaGreat
open Go.RowKit
set_option maxHeartbeats 1000000 in
theorem size_any(x:Int)(w:World)(h1 : -9223372036854775807≤x)(h2:x≤9223372036854775807) :
 Calls Tryz.prog 149 #[.int .i64 x] w fun e w'=>e = .returned (.int .i64 (if x<0 then -x else x))∧w'=w:=by
 by_cases h:x<0
 ·rw [if_pos h]
  go_enter Tryz.func149,Tryz.ntmps149
  go_wp2
  go_ret
  exact⟨rfl,rfl⟩
 ·rw [if_neg h]
  go_enter Tryz.func149,Tryz.ntmps149
  go_wp2
  go_ret
  exact⟨rfl,rfl⟩
set_option maxHeartbeats 2000000 in
theorem window_any(A:Option Addr)(n c s:Nat)(f:Nat→Nat)(w:World)(ha:Rd .u32 w A n f)(hf : ∀j,j<n→f j<4294967296)(hs:s≤281474976710656)(hN:num 4294967296 f n / 2 ^ s<4611686018427387904) :
 Calls Tryz.prog 148 #[.slice A n c,.int .i64 (s:Nat)] w fun e w'=>e = .returned (.int .i64 (num 4294967296 f n / 2 ^ s:Nat))∧∃k,w'=w.drewN k:=by
 obtain⟨hw1,hw2⟩:=window_num hf hN
 have b0:=limbOf_lt hf (s / 32)
 have b1:=limbOf_lt hf (s / 32+1)
 have b2:=limbOf_lt hf (s / 32+2)
 have d0:=fun w' (h:Rd .u32 w' A n f)=>limb_any A n c (s / 32) f w' h hf
 have d1:=fun w' (h:Rd .u32 w' A n f)=>limb_any A n c (s / 32+1) f w' h hf
 have d2:=fun w' (h:Rd .u32 w' A n f)=>limb_any A n c (s / 32+2) f w' h hf
 have hor1:=or_high32 _ _ b0 b1
 have ho:s % 32<32:=Nat.mod_lt _ j0a
 have hd1:(s:Int) / 32=((s / 32:Nat):Int):=rfl
 have hd2:(s:Int) % 32=((s % 32:Nat):Int):=rfl
 have hid:s / 32≤281474976710656 := j0a
 generalize limbOf f n (s / 32)=l0 at *
 generalize limbOf f n (s / 32+1)=l1 at *
 generalize limbOf f n (s / 32+2)=l2 at *
 generalize num 4294967296 f n / 2 ^ s=X at *
 generalize s / 32=i at *
 generalize s % 32=o at *
 obtain⟨lo,hlo⟩ : ∃lo,lo=(l0+l1*4294967296):=⟨_,rfl⟩
 rw [← hlo] at hor1 hw1 hw2
 obtain⟨a,hae⟩ : ∃a,a=lo / 2 ^ o:=⟨_,rfl⟩
 rw [← hae] at hw1 hw2
 have hor2:=or_win a l2 (2 ^ (64 - o)) (64 - o) rfl hw2 j0a
 have hpc:((l2*2 ^ (64 - o):Nat):Int)=(l2:Int)*2 ^ (64 - o):=by rw [Int.natCast_mul,Int.natCast_pow];rfl
 rw [hw1,hpc] at hor2
 have hT:IntKind.u64.wrap ((l2:Int)*2 ^ (64 - o))=(l2:Int)*2 ^ (64 - o):=by
  rw [← hpc]
  exact IntWalk.u64_in _ j0a
 have hsa:(lo:Int) / 2 ^ o=(a:Int):=by
  rw [hae,show((2:Int) ^ o)=((2 ^ o:Nat):Int) from by rw [Int.natCast_pow];rfl]
  rfl
 have h64:((64:Int) - (o:Int)).toNat=64 - o := j0a
 have hX:(X:Int)<4611686018427387904 := j0a
 have D0:=Lib.hid d0
 have D1:=Lib.hid d1
 have D2:=Lib.hid d2
 have HA:=Lib.hid ha
 clear hpc hf ha d0 d1 d2 hN hae hlo hw2
 go_enter Tryz.func148,Tryz.ntmps148
 go_wp2_with fail
 refine(D0.out _ HA.out).mono ?_
 rintro e w' ⟨rfl,rfl⟩
 go_wp2_with fail
 refine(D1.out _ HA.out).mono ?_
 rintro e w' ⟨rfl,rfl⟩
 have hi2:IntKind.i64.wrap ((i:Int)+2)=(i:Int)+2:=IntWalk.i64_in _ j0a
 have hi3:IntKind.i64.wrap (64 - (o:Int))=64 - (o:Int):=IntWalk.i64_in _ j0a
 have hi4:IntKind.i64.wrap (X:Int)=(X:Int):=IntWalk.i64_in _ j0a
 go_wp2
 go_quiet ((go_at_call 144;exact Calls.quiet_of_same (D2.out _ HA.out)))
 go_wp2
 go_ret
 exact⟨rfl,_,rfl⟩
end Go.Proofs.YtgilnmhejjpleaaGreat
