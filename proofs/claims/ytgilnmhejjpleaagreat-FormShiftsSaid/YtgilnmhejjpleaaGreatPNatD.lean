/- Merged of Da,Db,Dc,Kn,Gu,Gw,Ds,Bn,Dm,Dl,Dv. -/
import Derived.Test.YtgilnmhejjpleaaGreatPNatBb
import Derived.Test.YtgilnmhejjpleaaGreatPNatA
import Derived.Deep.RegionWith
import Derived.Lib.BitFns
import Derived.Lib.ItoaNum
namespace Go.Proofs.YtgilnmhejjpleaaGreat
open Go.RowKit
theorem j258 {P:Prop}(h:P:=by rw [← Nat.pow_add, show 32 - s + s = 32 from j0i3]):P:=h
theorem ji7r {P:Prop}(h:P:=by rw [HDe.out, HRe.out]; exact long_end hnum j0i3):P:=h
def StInv(w wr:World)(g o sz k cy q:Nat)(f h f':Nat→Nat):Prop :=
 cy<4294967296∧Row .u32 117 wr g sz f'∧Wr g w wr∧(∀j,¬ (o≤j∧j<o+k)→f' j=f j)∧(∀j,j<k→f' (o+j)<4294967296)∧
  num 4294967296 (fun j=>f' (o+j)) k+q*num 4294967296 h k=num 4294967296 (fun j=>f (o+j)) k+cy*4294967296 ^ k
theorem st_carry {P f:Nat}(hP:P≤18446744069414584320):P / 4294967296+subC f (P % 4294967296) 0<4294967296:=by
 unfold subC
 split <;> omega
theorem StInv.step {w wr:World} {g o sz k cy q:Nat} {f h f':Nat→Nat}(hi:StInv w wr g o sz k cy q f h f')(hf:f (o+k)<4294967296)(hh:h k<4294967296)(hq:q<4294967296)
 (P:Nat) (hP:P=cy+h k*q) (x:Int) (hx:x=(subD (f' (o+k)) (P % 4294967296) 0:Nat)) (c':Nat) (hc':c'=P / 4294967296+subC (f' (o+k)) (P % 4294967296) 0) :
 StInv w (wr.setCell ⟨g,o+k,none⟩ (.int .u32 x)) g o sz (k+1) c' q f h (upd f' (o+k) (subD (f' (o+k)) (P % 4294967296) 0)):=by
 subst hx
 obtain⟨h1,h2,h3,h4,h5,h6⟩:=hi
 have e0:f' (o+k)=f (o+k):=h4 _ j0i3
 have hm:=mul_le_32 hh hq
 refine⟨by rw [hc'];exact st_carry j0i3,h2.set_ _ _,h3.setCell _ _,fun j hj=>?_,fun j hj=>?_,?_⟩
 ·rw [upd_ne _ _ _ j0i3];exact h4 j j0i3
 ·by_cases hjk:j=k
  ·subst hjk;rw [upd_same];exact subD_lt _ _ _
  ·rw [upd_ne _ _ _ j0i3];exact h5 j j0i3
 ·rw [num_succ,num_succ,num_succ,upd_same,num_congr (f':=fun j=>f' (o+j)) k (fun j hj=>upd_ne _ _ _ j0i3)]
  rw [e0] at hc' ⊢
  have hs:=sub_eq (f (o+k)) (P % 4294967296) 0 hf (Nat.mod_lt _ j0i3) j0i3
  have hd:=Nat.div_add_mod P 4294967296
  generalize subD (f (o+k)) (P % 4294967296) 0=r at *
  generalize subC (f (o+k)) (P % 4294967296) 0=ms at *
  generalize P % 4294967296=lo at *
  generalize P / 4294967296=hi at *
  have e1:r+cy+h k*q=f (o+k)+4294967296*c' := j0i3
  have e2:(r+cy+h k*q)*4294967296 ^ k=(f (o+k)+4294967296*c')*4294967296 ^ k:=by rw [e1]
  rw [Nat.add_mul,Nat.add_mul,Nat.add_mul] at e2
  have e3:c'*4294967296 ^ (k+1)=4294967296*c'*4294967296 ^ k:=by rw [Nat.pow_succ,Nat.mul_comm (4294967296 ^ k),← Nat.mul_assoc,Nat.mul_comm c']
  have e4:q*(num 4294967296 h k+h k*4294967296 ^ k)=q*num 4294967296 h k+h k*q*4294967296 ^ k:=by
   rw [Nat.mul_add,← Nat.mul_assoc,Nat.mul_comm q (h k)]
  rw [e3,e4]
  omega
set_option maxHeartbeats 1000000 in
theorem subTimes_any(g o n c:Nat)(B:Option Addr)(m d sz q:Nat)(f h:Nat→Nat)(w:World)(hrow:Row .u32 117 w g sz f)(hsz:o+n≤sz)(hmn:m≤n)(hq:q<4294967296)
 (hr:Rd .u32 w B m h) (hoff:0<m→Off B g) (hf : ∀j,j<m→f (o+j)<4294967296) (hh : ∀j,j<m→h j<4294967296) (hn:n≤4611686018427387904) :
 Calls Tryz.prog 155 #[.slice (some ⟨g,o,none⟩) n c,.slice B m d,.int .u32 (q:Nat)] w fun e w' => ∃cy f',e = .returned (.int .u32 (cy:Nat))∧StInv w w' g o sz m cy q f h f':=by
 go_enter Tryz.func155,Tryz.ntmps155
 go_wp2
 go_loopw [7,13] (fun v7 v13 wr => ∃k cy f',k≤m∧v7 = .int .u64 (cy:Nat)∧v13 = .int .i64 (k:Nat)∧StInv w wr g o sz k cy q f h f') (fun _ v13 _=>m - (intOf v13).toNat)
 case atStart=>exact⟨0,0,f,Nat.zero_le _,rfl,rfl,by omega,hrow,Wr.refl,fun _ _=>rfl,fun _ hj=>absurd hj j0i3,by simp [num]⟩
 case round =>
  obtain⟨k,cy,f',hk,rfl,rfl,hinv⟩:=hrel
  have HH:=Lib.hid hh
  have HF:=Lib.hid hf
  have HR:=Lib.hid hr
  have HO:=Lib.hid hoff
  clear hh hf hr hoff hrow
  have hcy:cy<4294967296:=hinv.1
  by_cases hlt:k<m
  ·obtain⟨ad,rfl,hcell⟩:=(HR.out.wr (HO.out j0i3) hinv.2.2.1) k hlt
   have hcell2:=hinv.2.1.cell (j:=o+k) j0i3
   have hfz:=hinv.2.1.frozen (o+k)
   have b0:f (o+k)<4294967296:=HF.out k hlt
   have b1:f' (o+k)<4294967296:=by rw [hinv.2.2.2.1 (o+k) j0i3];exact b0
   have b2:h k<4294967296:=HH.out k hlt
   obtain⟨P,hP⟩ : ∃P,P=cy+h k*q:=⟨_,rfl⟩
   have hPl:P≤18446744069414584320:=by have:=mul_le_32 b2 hq;omega
   have hPi:(cy:Int)+(h k:Int)*(q:Int)=(P:Int):=by rw [hP,Int.natCast_add,Int.natCast_mul]
   have b3:(h k:Int)*(q:Int)≤18446744065119617025:=mul_int_32 b2 hq
   have b4:0≤(h k:Int)*(q:Int):=mul_int_0 _ _
   have b5:=subC_le (f' (o+k)) (P % 4294967296) 0
   have b6:=st_carry (f:=f' (o+k)) hPl
   have HS:=Lib.hid (hinv.step b0 b2 hq P hP _ rfl _ rfl)
   have hml:P % 4294967296<4294967296:=Nat.mod_lt _ j0i3
   have DS:Hid (∀w2,Calls Tryz.prog 129 #[.int .u32 (f' (o+k):Nat),.int .u32 ((P:Int) % 4294967296),.int .u32 0] w2 fun e w'=>Sub32Post w2 w' e (f' (o+k)) (P % 4294967296) 0) :=
    fun w2=>sub32_any (f' (o+k)) (P % 4294967296) 0 b1 hml j0i3 w2
   clear hinv hP
   go_wp2_with fail
   refine(DS.out _).mono ?_
   rintro e w2 ⟨rfl,hw⟩
   subst w2
   generalize subC (f' (o+k)) (P % 4294967296) 0=ms at *
   go_wp2
   go_roundw
   case rel=>exact⟨k+1,P / 4294967296+ms,_,by omega,by go_num,by go_num,HS.out⟩
   case measure=>simp [intOf];omega
  ·obtain rfl:k=m:=by omega
   go_wp2
   go_ret
   exact⟨cy,f',rfl,hinv⟩
end Go.Proofs.YtgilnmhejjpleaaGreat
namespace Go.Proofs.YtgilnmhejjpleaaGreat
open Go.RowKit
def UpInv(w wr:World)(sz k cy s:Nat)(f F:Nat→Nat):Prop :=
 cy<2 ^ s∧Row .u32 117 wr w.heap.size sz F∧Below w.heap.size w wr∧(∀j,j<k→F j<4294967296)∧
  num 4294967296 F k+cy*4294967296 ^ k=2 ^ s*num 4294967296 f k
theorem shl_int(a s:Nat)(ha:a<4294967296)(hs:s<32):IntKind.u64.wrap ((a:Int)*2 ^ s)=((a*2 ^ s:Nat):Int):=by
 have h1:2 ^ s≤2147483648:=Nat.le_trans (Nat.pow_le_pow_right j0i3 (show s≤31 by omega)) jpu1
 have h2:a*2 ^ s≤4294967295*2147483648:=Nat.mul_le_mul j0i3 h1
 rw [show((a:Int)*2 ^ s)=((a*2 ^ s:Nat):Int) from by rw [Int.natCast_mul,Int.natCast_pow];rfl]
 exact IntWalk.u64_in _ ⟨by omega,by omega⟩
theorem or_low(a b s:Nat)(ha:a<4294967296)(hs:s<32)(hb:b<2 ^ s):bits BinOp.or IntKind.u64 (b:Int) ((a*2 ^ s:Nat):Int)=((b+a*2 ^ s:Nat):Int):=by
 have h1:2 ^ s≤2147483648:=Nat.le_trans (Nat.pow_le_pow_right j0i3 (show s≤31 by omega)) jpu1
 have h2:a*2 ^ s≤4294967295*2147483648:=Nat.mul_le_mul j0i3 h1
 rw [u64_or_nat _ _ j0i3 j0i3]
 congr 1
 rw [Nat.or_comm,Nat.add_comm,Nat.mul_comm]
 exact(Nat.two_pow_add_eq_or_of_lt hb a).symm
theorem UpInv.step {w wr:World} {sz k cy s:Nat} {f F:Nat→Nat}(hi:UpInv w wr sz k cy s f F)(hf:f k<4294967296)(Y:Nat)(hY:Y=cy+f k*2 ^ s)(x:Int)(hx:x=(Y % 4294967296:Nat)) :
 UpInv w (wr.setCell ⟨w.heap.size,k,none⟩ (.int .u32 x)) sz (k+1) (Y / 4294967296) s f (upd F k (Y % 4294967296)):=by
 subst hx
 obtain⟨h1,h2,h3,h4,h5⟩:=hi
 refine⟨?_,h2.set_ _ _,h3.setCell (Nat.le_refl _) _,fun j hj=>?_,?_⟩
 ·rw [Nat.div_lt_iff_lt_mul j0i3,hY]
  have:(f k+1)*2 ^ s≤4294967296*2 ^ s:=Nat.mul_le_mul_right _ hf
  rw [Nat.add_mul,Nat.one_mul] at this
  rw [Nat.mul_comm (2 ^ s)]
  omega
 ·by_cases hjk:j=k
  ·subst hjk;rw [upd_same];omega
  ·rw [upd_ne _ _ _ hjk];exact h4 j j0i3
 ·rw [num_succ,num_succ,upd_same,num_upd _ _ (Nat.le_refl _)]
  have hd:=Nat.div_add_mod Y 4294967296
  generalize Y % 4294967296=r at *
  generalize Y / 4294967296=q at *
  have e3:r*4294967296 ^ k+q*4294967296 ^ (k+1)=(cy+f k*2 ^ s)*4294967296 ^ k:=by
   rw [← hY,← hd,Nat.pow_succ,Nat.add_mul,Nat.add_comm]
   congr 1
   rw [Nat.mul_comm (4294967296 ^ k),← Nat.mul_assoc,Nat.mul_comm q]
  rw [Nat.add_mul] at e3
  rw [Nat.mul_add,← Nat.mul_assoc,Nat.mul_comm (2 ^ s) (f k)]
  omega
set_option maxHeartbeats 1000000 in
theorem shiftUp_any(A:Option Addr)(n c s:Nat)(f:Nat→Nat)(w:World)(ha:Rd .u32 w A n f)(hs:s<32)(hn:n≤8796093022208)(hf : ∀j,j<n→f j<4294967296) :
 Calls Tryz.prog 150 #[.slice A n c,.int .i64 (s:Nat)] w fun e w' => ∃F,e = .returned (.slice (some ⟨w.heap.size,0,none⟩) (n+1) (n+1))∧Row .u32 117 w' w.heap.size (n+1) F∧Below w.heap.size w w'∧(∀j,j<n+1→F j<4294967296)∧num 4294967296 F (n+1)=2 ^ s*num 4294967296 f n:=by
 have HA:=Lib.hid ha
 have HF:=Lib.hid hf
 clear ha hf
 go_enter Tryz.func150,Tryz.ntmps150
 go_wp2_with (at_make;refine wpList_make_row rfl _ _ 32 rfl .u32 117 Tryz.underlying32 4 u32_info j0i3 .i64 .i64 _ _ (n+1) rfl rfl j0i3 j0i3 j0i3 ?_;intro w1 hrow1 hb1 hs1)
 have HR1:=Lib.hid hrow1
 have HB1:=Lib.hid hb1
 clear hrow1 hb1
 go_loopw [6,14] (fun v6 v14 wr => ∃k cy F,k≤n∧v6 = .int .u64 (cy:Nat)∧v14 = .int .i64 (k:Nat)∧UpInv w wr (n+1) k cy s f F) (fun _ v14 _=>n - (intOf v14).toNat)
 case atStart=>exact⟨0,0,_,Nat.zero_le _,rfl,rfl,Nat.pow_pos j0i3,HR1.out,HB1.out,fun _ hj=>absurd hj j0i3,by simp [num]⟩
 case round =>
  obtain⟨k,cy,F,hk,rfl,rfl,hinv⟩:=hrel
  clear HR1 HB1
  by_cases hlt:k<n
  ·obtain⟨ad,rfl,hcell⟩:=(HA.out.below hinv.2.2.1) k hlt
   have hcell2:=hinv.2.1.cell (j:=k) j0i3
   have hfz:=hinv.2.1.frozen k
   have b0:=HF.out k hlt
   have HI:=Lib.hid hinv
   clear hinv
   have hcy:=HI.out.1
   have hsh:=shl_int (f k) s b0 hs
   have hor:=or_low (f k) cy s b0 hs hcy
   obtain⟨X,hX⟩ : ∃X,X=f k*2 ^ s:=⟨_,rfl⟩
   rw [← hX] at hsh hor
   obtain⟨Y,hY⟩ : ∃Y,Y=cy+X:=⟨_,rfl⟩
   rw [← hY] at hor
   have HS:=Lib.hid (HI.out.step b0 Y (by rw [hY,hX]) _ rfl)
   clear hX hY hcy
   go_wp2
   go_roundw
   case rel=>exact⟨k+1,Y / 4294967296,_,by omega,by go_num,by go_num,HS.out⟩
   case measure=>simp [intOf];omega
  ·obtain rfl:k=n:=by omega
   have hcell2:=hinv.2.1.cell (j:=k) j0i3
   have hfz:=hinv.2.1.frozen k
   have hcy:cy<4294967296:=Nat.lt_of_lt_of_le hinv.1 (Nat.le_trans (Nat.pow_le_pow_right j0i3 (show s≤31 by omega)) jpu1)
   have HI:=Lib.hid hinv
   clear hinv
   go_wp2
   go_ret
   obtain⟨i1,i2,i3,i4,i5⟩:=HI.out
   refine⟨_,rfl,i2.set_ k cy,i3.setCell (Nat.le_refl _) _,fun j hj=>?_,?_⟩
   ·by_cases hjk:j=k
    ·subst hjk;rw [upd_same];exact hcy
    ·rw [upd_ne _ _ _ hjk];exact i4 j j0i3
   ·rw [num_succ,upd_same,num_upd _ _ (Nat.le_refl _)];exact i5
end Go.Proofs.YtgilnmhejjpleaaGreat
namespace Go.Proofs.YtgilnmhejjpleaaGreat
open Go.RowKit
def sd(f:Nat→Nat)(n s j:Nat):Nat:=(limbOf f n j+limbOf f n (j+1)*4294967296) / 2 ^ s % 4294967296
def DownInv(w wr:World)(g n k s:Nat)(f F:Nat→Nat):Prop :=
 Row .u32 117 wr g n F∧Wr g w wr∧(∀j,j<k→F j=sd f n s j)∧(∀j,k≤j→F j=f j)
theorem DownInv.step {w wr:World} {g n k s:Nat} {f F:Nat→Nat}(hi:DownInv w wr g n k s f F)(x:Int)(hx:x=(sd f n s k:Nat)) :
 DownInv w (wr.setCell ⟨g,k,none⟩ (.int .u32 x)).drew g n (k+1) s f (upd F k (sd f n s k)):=by
 subst hx
 obtain⟨h1,h2,h3,h4⟩:=hi
 refine⟨(h1.set_ _ _).drew,(h2.setCell _ _).drew,fun j hj=>?_,fun j hj=>?_⟩
 ·by_cases hjk:j=k
  ·subst hjk;rw [upd_same]
  ·rw [upd_ne _ _ _ hjk];exact h3 j j0i3
 ·rw [upd_ne _ _ _ j0i3];exact h4 j j0i3
set_option maxHeartbeats 1000000 in
theorem shiftDown_any(g n c s:Nat)(f:Nat→Nat)(w:World)(hrow:Row .u32 117 w g n f)(hs:s<32)(hn:n≤8796093022208)(hf : ∀j,j<n→f j<4294967296) :
 Calls Tryz.prog 152 #[.slice (some ⟨g,0,none⟩) n c,.int .i64 (s:Nat)] w fun e w' => ∃F,e = .returned (.tuple #[])∧DownInv w w' g n n s f F:=by
 have HF:=Lib.hid hf
 clear hf
 go_enter Tryz.func152,Tryz.ntmps152
 go_wp2
 go_loopw [7] (fun v7 wr => ∃k F,k≤n∧v7 = .int .i64 (k:Nat)∧DownInv w wr g n k s f F) (fun v7 _=>n - (intOf v7).toNat)
 case atStart=>exact⟨0,f,Nat.zero_le _,rfl,hrow,Wr.refl,fun _ hj=>absurd hj j0i3,fun _ _=>rfl⟩
 case round =>
  obtain⟨k,F,hk,rfl,hinv⟩:=hrel
  clear hrow
  by_cases hlt:k<n
  ·have hcell:=hinv.1.cell (j:=k) hlt
   have hfz:=hinv.1.frozen k
   have b0:F k<4294967296:=by rw [hinv.2.2.2 k (Nat.le_refl _)];exact HF.out k hlt
   have e0:F k=limbOf f n k:=by rw [hinv.2.2.2 k (Nat.le_refl _)];unfold limbOf;rw [if_pos hlt]
   have e1:limbOf F n (k+1)=limbOf f n (k+1):=by
    unfold limbOf;split
    ·exact hinv.2.2.2 _ j0i3
    ·rfl
   have hfb : ∀j,j<n→F j<4294967296∨j<k:=fun j hj=>by
    by_cases h:j<k
    ·exact .inr h
    ·left;rw [hinv.2.2.2 j j0i3];exact HF.out j hj
   have hFl : ∀j,j<n→F j<4294967296:=fun j hj=>by
    by_cases h:j<k
    ·rw [hinv.2.2.1 j h];exact Nat.mod_lt _ j0i3
    ·rw [hinv.2.2.2 j j0i3];exact HF.out j hj
   have h1:=limbOf_lt hFl (k+1)
   have hrd:=hinv.1.rd0 (Nat.le_refl n)
   have DL:Hid (Calls Tryz.prog 144 #[.slice (some ⟨g,0,none⟩) n c,.int .i64 ((k:Int)+1)] wr.drew fun e w'=>e = .returned (.int .u64 (limbOf F n (k+1):Nat))∧w'=wr.drew) :=
    limb_any _ n c (k+1) F wr.drew hrd.drew hFl
   have hor:=or_high32 (F k) (limbOf F n (k+1)) b0 h1
   obtain⟨y,hy⟩ : ∃y,y=limbOf F n (k+1):=⟨_,rfl⟩
   rw [← hy] at DL hor h1 e1
   obtain⟨Z,hZ⟩ : ∃Z,Z=F k+y*4294967296:=⟨_,rfl⟩
   rw [← hZ] at hor
   have hZe:Z / 2 ^ s % 4294967296=sd f n s k:=by rw [hZ,e0,e1];rfl
   obtain⟨t,ht⟩ : ∃t,t=sd f n s k:=⟨_,rfl⟩
   have HS:=Lib.hid (hinv.step (t:Int) (by rw [ht]))
   have hwF:IntKind.u64.wrap (F k:Int)=(F k:Int):=IntWalk.u64_in _ j0i3
   have hwy:IntKind.u64.wrap ((y:Int)*4294967296)=(y:Int)*4294967296:=IntWalk.u64_in _ j0i3
   have hwz:IntKind.u32.wrap ((Z:Int) / 2 ^ s)=(t:Int):=by
    rw [ht,← hZe,IntKind.wrap_u32,show((2:Int) ^ s)=((2 ^ s:Nat):Int) from by rw [Int.natCast_pow];rfl]
    rfl
   have hi0:IntKind.i64.wrap ((k:Int)+1)=(k:Int)+1:=IntWalk.i64_in _ j0i3
   clear hinv hfb hFl hrd hy e0 e1 ht hZe hZ
   go_wp2
   go_region_with (go_at_call 144;refine DL.out.mono ?_;rintro e w2 ⟨rfl,hw⟩;subst w2)
   all_goals
    go_wp2
    go_roundw
    case rel=>exact⟨k+1,_,by omega,by go_num,HS.out⟩
    case measure=>simp [intOf];omega
  ·obtain rfl:k=n:=by omega
   go_wp2
   go_end0
   exact⟨F,rfl,hinv⟩
end Go.Proofs.YtgilnmhejjpleaaGreat
namespace Go.Proofs.YtgilnmhejjpleaaGreat
open Go.RowKit
theorem num_mod {f:Nat→Nat} {n:Nat}(hf : ∀j,j<n→f j<4294967296):num 4294967296 f n % 4294967296=limbOf f n 0:=by
 unfold limbOf
 rcases Nat.eq_zero_or_pos n with h | h
 ·subst h;simp [num]
 ·rw [if_pos h,num_first h,Nat.add_mul_mod_self_left,Nat.mod_eq_of_lt (hf 0 h)]
theorem shift_step(a0 A S T:Nat)(hL:S*T=4294967296)(ha:a0<4294967296) :
 (a0+(A % 4294967296)*4294967296) / S % 4294967296+4294967296*(A / S)=(a0+4294967296*A) / S:=by
 have hS:0<S:=by
  rcases Nat.eq_zero_or_pos S with h | h
  ·rw [h,Nat.zero_mul] at hL;omega
  ·exact h
 have hv:A % 4294967296 % S=A % S:=Nat.mod_mod_of_dvd _ ⟨T,hL.symm⟩
 have e1:=Nat.div_add_mod A S
 have e2:=Nat.div_add_mod (A % 4294967296) S
 rw [hv] at e2
 have hvl:A % S<S:=Nat.mod_lt _ hS
 generalize A % 4294967296=a1 at *
 generalize A / S=u at *
 generalize a1 / S=u1 at *
 generalize A % S=v at *
 subst e1
 subst e2
 have h1:a0+(S*u1+v)*4294967296=(a0+v*4294967296)+S*(u1*4294967296):=by rw [Nat.add_mul,Nat.mul_assoc];omega
 have h2:a0+4294967296*(S*u+v)=(a0+v*4294967296)+S*(u*4294967296):=by
  rw [Nat.mul_add,Nat.mul_comm 4294967296 (S*u),Nat.mul_assoc];omega
 have h3:(a0+v*4294967296) / S<4294967296:=by
  rw [Nat.div_lt_iff_lt_mul hS]
  have:(v+1)*4294967296≤S*4294967296:=Nat.mul_le_mul_right _ hvl
  rw [Nat.mul_comm 4294967296]
  omega
 rw [h1,h2,Nat.add_mul_div_left _ _ hS,Nat.add_mul_div_left _ _ hS,Nat.add_mul_mod_self_right,Nat.mod_eq_of_lt h3]
 omega
theorem num_sd(s:Nat)(hs:s<32) : ∀ (n:Nat) (f:Nat→Nat),(∀j,j<n→f j<4294967296)→num 4294967296 (sd f n s) n=num 4294967296 f n / 2 ^ s
 | 0,_,_=>by simp [num]
 |n+1,f,hf=>by
  have ih:=num_sd s hs n (fun j=>f (j+1)) (fun j hj=>hf (j+1) j0i3)
  have e1:num 4294967296 (fun j=>sd f (n+1) s (j+1)) n=num 4294967296 (sd (fun j=>f (j+1)) n s) n:=num_congr n fun j _=>by
   unfold sd limbOf
   simp only [Nat.add_lt_add_iff_right]
  rw [num_first j0i3,num_first (f:=f) j0i3]
  simp only [Nat.add_sub_cancel]
  rw [e1,ih]
  have hm:=num_mod (f:=fun j=>f (j+1)) (n:=n) (fun j hj=>hf (j+1) j0i3)
  have e2:sd f (n+1) s 0=(f 0+num 4294967296 (fun j=>f (j+1)) n % 4294967296*4294967296) / 2 ^ s % 4294967296:=by
   rw [hm]
   unfold sd limbOf
   simp only [Nat.zero_lt_succ,if_true,Nat.zero_add]
   congr 4
   by_cases h0:0<n
   ·rw [if_pos j0i3,if_pos h0]
   ·rw [if_neg j0i3,if_neg h0]
  rw [e2]
  exact shift_step _ _ (2 ^ s) (2 ^ (32 - s)) (by rw [← Nat.pow_add,show s+(32 - s)=32 from j0i3]) (hf 0 j0i3)
def Guessed(k R D:Nat):Prop:=R / D≤k∧k≤R / D+1∧k<4294967296
theorem knuth {k R D U V W:Nat}(hR:U*W≤R)(hV:V*W≤D)(hD:D<(V+1)*W)(hVL:4294967296≤V)(hkl:k<4294967296)(hle:k*V≤U)(hq:R / D≤k)(hD0:0<D):Guessed k R D:=by
 refine⟨hq,?_,hkl⟩
 rcases Nat.lt_or_ge k 1 with h | h
 ·exact Nat.le_trans (Nat.le_of_lt h) (Nat.le_add_left _ _)
 ·have h1:(k - 1)*D≤R:=by
   have a1:k*D≤k*V*W+k*W:=by
    have:=Nat.mul_le_mul_left k (Nat.le_of_lt hD)
    rw [Nat.add_mul,Nat.one_mul,Nat.mul_add,← Nat.mul_assoc] at this
    exact this
   have a2:k*V*W≤U*W:=Nat.mul_le_mul_right _ hle
   have a3:k*W≤V*W:=Nat.mul_le_mul_right _ j0i3
   rw [Nat.sub_mul,Nat.one_mul]
   omega
  have h2:=(Nat.le_div_iff_mul_le hD0).2 h1
  generalize R / D=q at *
  omega
theorem knuth_dec {k R D U V W:Nat}(hR:R<(U+1)*W)(hV:V*W≤D)(hgt:U<k*V)(hD0:0<D):R / D≤k - 1:=by
 have h1:R<k*D:=by
  have a1:(U+1)*W≤k*V*W:=Nat.mul_le_mul_right _ hgt
  have a2:k*(V*W)≤k*D:=Nat.mul_le_mul_left _ hV
  rw [← Nat.mul_assoc] at a2
  omega
 have h2:R / D<k:=(Nat.div_lt_iff_lt_mul hD0).2 h1
 generalize R / D=q at *
 omega
end Go.Proofs.YtgilnmhejjpleaaGreat
namespace Go.Proofs.YtgilnmhejjpleaaGreat
open Go.RowKit
structure GuInv (k rest top v1 v0 u0 R D:Nat):Prop where
 eq:k*v1+rest=top
 rl:rest<4294967296
 ub:R / D≤k
 kl:k≤4294967297
structure GuFacts (top v1 v0 u0 R D W:Nat):Prop where
 r1:(top*4294967296+u0)*W≤R
 r2:R<(top*4294967296+u0+1)*W
 d1:(v1*4294967296+v0)*W≤D
 d2:D<(v1*4294967296+v0+1)*W
 dp:0<D
 q:R / D<4294967296
 vh:2147483648≤v1
 vl:v1<4294967296
 wl:v0<4294967296
 ul:u0<4294967296
 tl:top≤v1*4294967296+4294967295
section
variable {k rest top v1 v0 u0 R D W:Nat}
theorem GuInv.high(F:GuFacts top v1 v0 u0 R D W)(hk:4294967296≤k):R / D≤k - 1:=by
 have:=F.q
 generalize R / D=q at *
 omega
theorem GuInv.low(h:GuInv k rest top v1 v0 u0 R D)(F:GuFacts top v1 v0 u0 R D W)(hgt:rest*4294967296+u0<k*v0):R / D≤k - 1:=by
 refine knuth_dec (U:=top*4294967296+u0) (V:=v1*4294967296+v0) (W:=W) F.r2 F.d1 ?_ F.dp
 rw [← h.eq,Nat.mul_add,Nat.add_mul,← Nat.mul_assoc,Nat.add_assoc]
 exact Nat.add_lt_add_left hgt _
theorem GuInv.pos_low(hgt:rest*4294967296+u0<k*v0):1≤k:=by
 rcases Nat.eq_zero_or_pos k with h | h
 ·subst h;omega
 ·exact h
theorem GuInv.next(h:GuInv k rest top v1 v0 u0 R D)(hk:1≤k)(hq:R / D≤k - 1)(hr:rest+v1<4294967296):GuInv (k - 1) (rest+v1) top v1 v0 u0 R D:=by
 refine⟨?_,hr,hq,by have:=h.kl;omega⟩
 have:=h.eq
 obtain⟨i,rfl⟩ : ∃i,k=i+1:=⟨k - 1,by omega⟩
 rw [Nat.add_mul,Nat.one_mul] at this
 simp only [Nat.add_sub_cancel]
 omega
theorem GuInv.broken(h:GuInv k rest top v1 v0 u0 R D)(F:GuFacts top v1 v0 u0 R D W)(hk:1≤k)(hq:R / D≤k - 1)(hr:4294967296≤rest+v1):Guessed (k - 1) R D:=by
 have he:=h.eq
 obtain⟨i,rfl⟩ : ∃i,k=i+1:=⟨k - 1,by omega⟩
 simp only [Nat.add_sub_cancel] at *
 rw [Nat.add_mul,Nat.one_mul] at he
 have ht:=F.tl
 have hil:i<4294967296:=by
  rcases Nat.lt_or_ge i 4294967296 with h1 | h1
  ·exact h1
  ·have:4294967296*v1≤i*v1:=Nat.mul_le_mul_right _ h1
   omega
 refine knuth (U:=top*4294967296+u0) (V:=v1*4294967296+v0) (W:=W) F.r1 F.d1 F.d2 (by have:=F.vh;omega) hil ?_ hq F.dp
 have h1:i*v0≤4294967295*4294967295:=Nat.mul_le_mul j0i3 (by have:=F.wl;omega)
 have he2:i*v1+(rest+v1)=top:=by generalize i*v1=b at *;omega
 rw [← he2,Nat.mul_add,Nat.add_mul,← Nat.mul_assoc,Nat.add_assoc]
 refine Nat.add_le_add_left ?_ _
 generalize i*v0=b at *
 omega
theorem GuInv.done(h:GuInv k rest top v1 v0 u0 R D)(F:GuFacts top v1 v0 u0 R D W)(hk:k<4294967296)(hle:k*v0≤rest*4294967296+u0):Guessed k R D:=by
 refine knuth (U:=top*4294967296+u0) (V:=v1*4294967296+v0) (W:=W) F.r1 F.d1 F.d2 (by have:=F.vh;omega) hk ?_ h.ub F.dp
 rw [← h.eq,Nat.mul_add,Nat.add_mul,← Nat.mul_assoc,Nat.add_assoc]
 exact Nat.add_le_add_left hle _
theorem GuFacts.start(F:GuFacts top v1 v0 u0 R D W):GuInv (top / v1) (top % v1) top v1 v0 u0 R D:=by
 have hv:=F.vh
 have hdm:=Nat.div_add_mod top v1
 have hml:top % v1<v1:=Nat.mod_lt _ j0i3
 refine⟨by rw [Nat.mul_comm];exact hdm,by have:=F.vl;omega,?_,?_⟩
 ·have h1:R<(top / v1+1)*D:=by
   have a1:top+1≤(top / v1+1)*v1:=by rw [Nat.add_mul,Nat.one_mul,Nat.mul_comm];omega
   have a2:(top+1)*4294967296≤(top / v1+1)*v1*4294967296:=Nat.mul_le_mul_right _ a1
   have a3:(top*4294967296+u0+1)*W≤(top / v1+1)*v1*4294967296*W:=Nat.mul_le_mul_right _ (by have:=F.ul;omega)
   have a4:(v1*4294967296)*W≤D:=Nat.le_trans (Nat.mul_le_mul_right _ (Nat.le_add_right _ _)) F.d1
   have a5:=Nat.mul_le_mul_left (top / v1+1) a4
   rw [← Nat.mul_assoc,← Nat.mul_assoc] at a5
   have:=F.r2
   omega
  have h2:=(Nat.div_lt_iff_lt_mul F.dp).2 h1
  generalize R / D=q at *
  generalize top / v1=t at *
  omega
 ·have ht:=F.tl
  rcases Nat.lt_or_ge (top / v1) 4294967298 with h | h
  ·omega
  ·have:v1*4294967298≤v1*(top / v1):=Nat.mul_le_mul_left _ h
   omega
end
end Go.Proofs.YtgilnmhejjpleaaGreat
namespace Go.Proofs.YtgilnmhejjpleaaGreat
open Go.RowKit
theorem guFacts {n:Nat} {f h:Nat→Nat}(hn:2≤n)(hf : ∀j,j<n+1→f j<4294967296)(hh : ∀j,j<n→h j<4294967296)(hv:2147483648≤h (n - 1))(hlt:num 4294967296 f (n+1)<num 4294967296 h n*4294967296) :
 GuFacts (f n*4294967296+f (n - 1)) (h (n - 1)) (h (n - 2)) (f (n - 2)) (num 4294967296 f (n+1)) (num 4294967296 h n) (4294967296 ^ (n - 2)):=by
 obtain⟨m,rfl⟩ : ∃m,n=m+2:=⟨n - 2,by omega⟩
 simp only [Nat.add_sub_cancel,show m+2 - 1=m+1 from j0i3] at *
 have f0:=num_lt (B:=4294967296) (f:=f) j0i3 m (fun j hj=>hf j j0i3)
 have h0:=num_lt (B:=4294967296) (f:=h) j0i3 m (fun j hj=>hh j j0i3)
 have ef:num 4294967296 f (m+2+1)=num 4294967296 f m+((f (m+2)*4294967296+f (m+1))*4294967296+f m)*4294967296 ^ m:=by
  have p1:(4294967296:Nat) ^ (m+1)=4294967296 ^ m*4294967296:=Nat.pow_succ _ _
  have p2:(4294967296:Nat) ^ (m+2)=4294967296 ^ m*4294967296*4294967296:=by rw [← p1];exact Nat.pow_succ _ _
  rw [num_succ,num_succ,num_succ,p2,p1]
  clear p1 p2
  generalize 4294967296 ^ m=W
  rw [Nat.add_mul,Nat.add_mul,Nat.add_mul]
  have a1:f (m+2)*(W*4294967296*4294967296)=f (m+2)*4294967296*4294967296*W:=by
   rw [Nat.mul_comm W,Nat.mul_assoc 4294967296 W,Nat.mul_comm W 4294967296,← Nat.mul_assoc,← Nat.mul_assoc]
  have a2:f (m+1)*(W*4294967296)=f (m+1)*4294967296*W:=by rw [Nat.mul_comm W,← Nat.mul_assoc]
  rw [a1,a2]
  omega
 have eh:num 4294967296 h (m+2)=num 4294967296 h m+(h (m+1)*4294967296+h m)*4294967296 ^ m:=by
  rw [num_succ,num_succ,Nat.pow_succ]
  generalize 4294967296 ^ m=W
  rw [Nat.add_mul]
  have a2:h (m+1)*(W*4294967296)=h (m+1)*4294967296*W:=by rw [Nat.mul_comm W,← Nat.mul_assoc]
  rw [a2]
  omega
 have b1:=hf (m+2) j0i3
 have b2:=hf (m+1) j0i3
 have b3:=hf m j0i3
 have b4:=hh (m+1) j0i3
 have b5:=hh m j0i3
 have hW:0<4294967296 ^ m:=Nat.pow_pos j0i3
 generalize num 4294967296 f (m+2+1)=R at *
 generalize num 4294967296 h (m+2)=D at *
 generalize num 4294967296 f m=r0 at *
 generalize num 4294967296 h m=d0 at *
 generalize 4294967296 ^ m=W at *
 generalize f (m+2)=u2 at *
 generalize f (m+1)=u1 at *
 generalize f m=u0 at *
 generalize h (m+1)=v1 at *
 generalize h m=v0 at *
 have hr1:((u2*4294967296+u1)*4294967296+u0)*W≤R:=by rw [ef];exact Nat.le_add_left _ _
 have hd2:D<(v1*4294967296+v0+1)*W:=by
  rw [eh,Nat.add_mul (v1*4294967296+v0),Nat.one_mul,Nat.add_comm]
  exact Nat.add_lt_add_left h0 _
 have hDp:0<D:=by
  rw [eh]
  have hv1p:0<v1:=Nat.lt_of_lt_of_le jpu1 hv
  exact Nat.lt_of_lt_of_le (Nat.mul_pos (Nat.lt_of_lt_of_le (Nat.mul_pos hv1p jpu1) (Nat.le_add_right _ _)) hW) (Nat.le_add_left _ _)
 refine⟨hr1,?_,?_,hd2,hDp,?_,hv,b4,b5,b3,?_⟩
 ·rw [ef,Nat.add_mul ((u2*4294967296+u1)*4294967296+u0),Nat.one_mul,Nat.add_comm]
  exact Nat.add_lt_add_left f0 _
 ·rw [eh];exact Nat.le_add_left _ _
 ·rw [Nat.div_lt_iff_lt_mul hDp,Nat.mul_comm];exact hlt
 ·have h1:((u2*4294967296+u1)*4294967296+u0)*W<(v1*4294967296+v0+1)*4294967296*W:=by
   refine Nat.lt_of_le_of_lt hr1 (Nat.lt_trans hlt ?_)
   have:=Nat.mul_lt_mul_of_pos_right hd2 (show 0<4294967296 by omega)
   rw [Nat.mul_assoc,Nat.mul_comm W,← Nat.mul_assoc] at this
   exact this
  have h2:=Nat.lt_of_mul_lt_mul_right h1
  clear h1 hr1 hd2 hDp hlt f0 h0 ef eh hW hf hh
  omega
def GuPost(w w':World)(e:Ending)(R D:Nat):Prop := ∃k,e = .returned (.int .u32 (k:Nat))∧Guessed k R D∧∃nq,w'=w.drewN nq
set_option maxHeartbeats 2000000 in
theorem guess_core(A:Option Addr)(n c:Nat)(B:Option Addr)(d:Nat)(u2 u1 u0 v1 v0 R D W:Nat)(w:World)(hn:2≤n)(hn2:n≤8796093022208)
 (hA : ∃ad,A=some ad∧w.cell? (ad.add n)=some (.int .u32 (u2:Nat))∧w.cell? (ad.add (n - 1))=some (.int .u32 (u1:Nat))∧w.cell? (ad.add (n - 2))=some (.int .u32 (u0:Nat)))
 (hB : ∃bd,B=some bd∧w.cell? (bd.add (n - 1))=some (.int .u32 (v1:Nat))∧w.cell? (bd.add (n - 2))=some (.int .u32 (v0:Nat)))
 (F:GuFacts (u2*4294967296+u1) v1 v0 u0 R D W) (hu2:u2<4294967296) (hu1:u1<4294967296) :
 Calls Tryz.prog 154 #[.slice A (n+1) c,.slice B n d] w fun e w'=>GuPost w w' e R D:=by
 obtain⟨ad,rfl,c2,c1,c0⟩:=hA
 obtain⟨bd,rfl,e1,e0⟩:=hB
 have hor:=or_shift32 u2 u1 hu2 hu1
 have hu0:=F.ul
 have hv1:=F.vl
 have hv1h:=F.vh
 have hv0:=F.wl
 have HS:=Lib.hid F.start
 have FF:=Lib.hid F
 clear F
 obtain⟨top,htop⟩ : ∃top,top=u2*4294967296+u1:=⟨_,rfl⟩
 rw [← htop] at hor HS FF
 have hwu2:IntKind.u64.wrap (u2:Int)=(u2:Int):=IntWalk.u64_in _ j0i3
 have hwu1:IntKind.u64.wrap (u1:Int)=(u1:Int):=IntWalk.u64_in _ j0i3
 have hwv1:IntKind.u64.wrap (v1:Int)=(v1:Int):=IntWalk.u64_in _ j0i3
 have hwv0:IntKind.u64.wrap (v0:Int)=(v0:Int):=IntWalk.u64_in _ j0i3
 have hwt:IntKind.u64.wrap ((u2:Int)*4294967296)=(u2:Int)*4294967296:=IntWalk.u64_in _ j0i3
 have hwn1:IntKind.i64.wrap ((n:Int) - 1)=(n:Int) - 1:=IntWalk.i64_in _ j0i3
 have hwn2:IntKind.i64.wrap ((n:Int) - 2)=(n:Int) - 2:=IntWalk.i64_in _ j0i3
 have hi1:(0:Int)≤(n:Int) - 1 := j0i3
 have hi2:(0:Int)≤(n:Int) - 2 := j0i3
 have ht1:((n:Int) - 1).toNat=n - 1 := j0i3
 have ht2:((n:Int) - 2).toNat=n - 2 := j0i3
 clear htop
 go_enter Tryz.func154,Tryz.ntmps154
 go_wp2
 go_quiet (fail)
 have c0':(w.drewN nq).cell? (ad.add (n - 2))=some (.int .u32 (u0:Nat)):=c0
 have HD:Hid (∃q,w.drewN nq=w.drewN q):=⟨nq,rfl⟩
 generalize w.drewN nq=w2 at *
 have htp:top<18446744073709551616:=by
  have h1:=FF.out.tl
  have h2:=FF.out.vl
  clear hor c0 c1 c2 c0' e0 e1
  omega
 have hq0:=HS.out.kl
 have hr0:top % v1<v1:=Nat.mod_lt _ j0i3
 have g1:(top:Int) / (v1:Int)=((top / v1:Nat):Int):=rfl
 have g2:(top:Int) % (v1:Int)=((top % v1:Nat):Int):=rfl
 generalize top / v1=k0 at *
 generalize top % v1=r0 at *
 have HTP:=Lib.hid htp
 clear hor c0 c1 c2 e0 e1 hwt htp
 have HG2:=Lib.hid g2
 go_wp2
 clear g1 g2
 go_loop [9,10] (fun v9 v10 => ∃k r,v9 = .int .u64 (k:Nat)∧v10 = .int .u64 (r:Nat)∧GuInv k r top v1 v0 u0 R D) (fun v9 _=>(intOf v9).toNat)
 case atStart=>exact⟨k0,r0,rfl,by first | rw [HG2.out] | rfl,HS.out⟩
 case round =>
  obtain⟨k,r,rfl,rfl,hi⟩:=hrel
  clear HS hq0 hr0
  have hk:=hi.kl
  have hr:=hi.rl
  have HI:=Lib.hid hi
  clear hi
  by_cases hkh:4294967296≤k
  ·have g3:((k:Int) / 4294967296 != 0)=true:=by rw [bne_iff_ne];omega
   have HQ:=Lib.hid (GuInv.high FF.out hkh)
   have hk1:1≤k := j0i3
   by_cases hbr:4294967296≤r+v1
   ·have g5:(((r:Int)+(v1:Int)) / 4294967296 != 0)=true:=by rw [bne_iff_ne];omega
    have HGD:=Lib.hid (HI.out.broken FF.out hk1 HQ.out hbr)
    have hkl:k - 1<4294967296:=HGD.out.2.2
    clear HI
    go_wp2
    go_ret
    exact⟨k - 1,by rw [show((k - 1:Nat):Int)=(k:Int) - 1 from j0i3];rfl,HGD.out,HD.out⟩
   ·have g5:(((r:Int)+(v1:Int)) / 4294967296 != 0)=false:=by rw [bne_eq_false_iff_eq];omega
    have HN:=Lib.hid (HI.out.next hk1 HQ.out j0i3)
    clear HI
    go_wp2
    go_round
    case rel=>exact⟨k - 1,r+v1,by go_num,by go_num,HN.out⟩
    case measure=>simp [intOf];omega
  ·have g3:((k:Int) / 4294967296 != 0)=false:=by rw [bne_eq_false_iff_eq];omega
   have hkl32:k<4294967296 := j0i3
   have hor2:=or_shift32 r u0 hr hu0
   have p1:=mul_int_32 hkl32 hv0
   have p0:=mul_int_0 k v0
   obtain⟨Z,hZ⟩ : ∃Z,Z=r*4294967296+u0:=⟨_,rfl⟩
   rw [← hZ] at hor2
   by_cases hgt:Z<k*v0
   ·have g4:(Z:Int)<(k:Int)*(v0:Int):=by rw [← Int.natCast_mul];exact Int.ofNat_lt.2 hgt
    have HQ:=Lib.hid (HI.out.low FF.out (by rw [← hZ];exact hgt))
    have hk1:1≤k:=GuInv.pos_low (rest:=r) (u0:=u0) (v0:=v0) (by rw [← hZ];exact hgt)
    clear hZ hgt
    by_cases hbr:4294967296≤r+v1
    ·have g5:(((r:Int)+(v1:Int)) / 4294967296 != 0)=true:=by rw [bne_iff_ne];omega
     have HGD:=Lib.hid (HI.out.broken FF.out hk1 HQ.out hbr)
     have hkl:k - 1<4294967296:=HGD.out.2.2
     clear HI
     go_wp2
     go_ret
     exact⟨k - 1,by rw [show((k - 1:Nat):Int)=(k:Int) - 1 from j0i3];rfl,HGD.out,HD.out⟩
    ·have g5:(((r:Int)+(v1:Int)) / 4294967296 != 0)=false:=by rw [bne_eq_false_iff_eq];omega
     have HN:=Lib.hid (HI.out.next hk1 HQ.out j0i3)
     clear HI
     go_wp2
     go_round
     case rel=>exact⟨k - 1,r+v1,by go_num,by go_num,HN.out⟩
     case measure=>simp [intOf];omega
   ·have g4:(k:Int)*(v0:Int)≤(Z:Int):=by rw [← Int.natCast_mul];exact Int.ofNat_le.2 j0i3
    have HGD:=Lib.hid (HI.out.done FF.out hkl32 (by rw [← hZ];omega))
    clear HI hZ hgt
    go_wp2
    go_ret
    exact⟨k,rfl,HGD.out,HD.out⟩
end Go.Proofs.YtgilnmhejjpleaaGreat
namespace Go.Proofs.YtgilnmhejjpleaaGreat
open Go.RowKit
theorem step_right {R D k fn x y ov P:Nat}(hg:Guessed k R D)(hD:0<D)(hR:R=x+fn*P)(h:y+k*D=x+ov*P)(hge:ov≤fn):k=R / D∧y+(fn - ov)*P=R % D:=by
 have h1:k*D≤R:=by
  have:ov*P≤fn*P:=Nat.mul_le_mul_right _ hge
  omega
 have h2:=(Nat.le_div_iff_mul_le hD).2 h1
 have h3:k=R / D:=Nat.le_antisymm h2 hg.1
 refine⟨h3,?_⟩
 have h4:=Nat.div_add_mod R D
 rw [← h3,Nat.mul_comm D k] at h4
 obtain⟨t,rfl⟩ : ∃t,fn=ov+t:=⟨fn - ov,by omega⟩
 rw [Nat.add_mul] at hR
 rw [Nat.add_sub_cancel_left]
 omega
theorem step_over {R D k fn x y ov P:Nat}(hg:Guessed k R D)(hD:0<D)(hDP:D<P)(hR:R=x+fn*P)(h:y+k*D=x+ov*P)(hy:y<P)(hlt:fn<ov) :
 ov=fn+1∧k - 1=R / D∧1≤k∧R % D+P=y+D:=by
 have h1:R<k*D:=by
  have:(fn+1)*P≤ov*P:=Nat.mul_le_mul_right _ hlt
  rw [Nat.add_mul,Nat.one_mul] at this
  omega
 have h2:R / D<k:=(Nat.div_lt_iff_lt_mul hD).2 h1
 have hk:=hg.2.1
 have h4:=Nat.div_add_mod R D
 have h5:=Nat.mod_lt R hD
 obtain⟨q,hq⟩ : ∃q,q=R / D:=⟨_,rfl⟩
 rw [← hq] at h2 hk h4 ⊢
 obtain rfl:k=q+1 := j0i3
 rw [Nat.add_mul,Nat.one_mul,Nat.mul_comm q D] at h
 have h6:ov=fn+1:=by
  rcases Nat.lt_or_ge ov (fn+2) with h7 | h7
  ·omega
  ·have:(fn+2)*P≤ov*P:=Nat.mul_le_mul_right _ h7
   rw [Nat.add_mul] at this
   omega
 subst h6
 rw [Nat.add_mul,Nat.one_mul] at h
 refine⟨rfl,by omega,by omega,by omega⟩
def StepPost(w w':World)(e:Ending)(g o n sz R D:Nat)(f:Nat→Nat):Prop :=
 ∃F,e = .returned (.int .u32 (R / D:Nat))∧Row .u32 117 w' g sz F∧Wr g w w'∧(∀j,¬ (o≤j∧j<o+(n+1))→F j=f j)∧(∀j,j<n+1→F (o+j)<4294967296)∧num 4294967296 (fun j=>F (o+j)) (n+1)=R % D
theorem step_back {w w':World} {g o sz n cr R D:Nat} {F1 h F2:Nat→Nat}(hi:AddInv w w' g o sz n cr F1 (fun j=>if j<n then h j else 0) F2)(h4:R % D+4294967296 ^ n=num 4294967296 (fun j=>F1 (o+j)) n+D)(hD:num 4294967296 h n=D) :
 cr=1∧num 4294967296 (fun j=>F2 (o+j)) n=R % D:=by
 obtain⟨a1,a2,a3,a4,a5,a6⟩:=hi
 rw [num_pad n (Nat.le_refl _),hD] at a6
 have a7:num 4294967296 (fun j=>F2 (o+j)) n<4294967296 ^ n:=num_lt j0i3 n a5
 generalize R % D=r at *
 generalize 4294967296 ^ n=P at *
 rcases Nat.eq_zero_or_pos cr with h0 | h0
 ·subst h0;omega
 ·obtain rfl:cr=1:=by omega
  exact⟨rfl,by omega⟩
set_option maxHeartbeats 2000000 in
theorem divStep_any(g o n c sz:Nat)(B:Option Addr)(d:Nat)(f h:Nat→Nat)(w:World)(hrow:Row .u32 117 w g sz f)(hsz:o+(n+1)≤sz)(hc:n+1≤c)(hn:2≤n)(hn2:n≤8796093022208)(hd:n≤d)
 (hb:Rd .u32 w B n h) (hoff:Off B g) (hf : ∀j,j<n+1→f (o+j)<4294967296) (hh : ∀j,j<n→h j<4294967296) (hv:2147483648≤h (n - 1))
 (hlt:num 4294967296 (fun j=>f (o+j)) (n+1)<num 4294967296 h n*4294967296) :
 Calls Tryz.prog 151 #[.slice (some ⟨g,o,none⟩) (n+1) c,.slice B n d] w fun e w'=>StepPost w w' e g o n sz (num 4294967296 (fun j=>f (o+j)) (n+1)) (num 4294967296 h n) f:=by
 have F:=guFacts (f:=fun j=>f (o+j)) hn hf hh hv hlt
 have DP:=num_lt (B:=4294967296) (f:=h) j0i3 n hh
 have ra:=hrow.rd (o:=o) (n:=n+1) hsz
 obtain⟨bd,rfl,_⟩:=hb 0 j0i3
 have G:=Lib.hid (guess_core (some ⟨g,o,none⟩) n c (some bd) d (f (o+n)) (f (o+(n - 1))) (f (o+(n - 2))) (h (n - 1)) (h (n - 2)) _ _ _ w hn hn2
  ⟨_,rfl,ra.at_ j0i3,ra.at_ j0i3,ra.at_ j0i3⟩ ⟨_,rfl,hb.at_ j0i3,hb.at_ j0i3⟩ F (hf n j0i3) (hf (n - 1) j0i3))
 have HDp:=Lib.hid F.dp
 have HDP:=Lib.hid DP
 have HRW:=Lib.hid hrow
 have HB:=Lib.hid hb
 have HO:=Lib.hid hoff
 have HF:=Lib.hid hf
 have HH:=Lib.hid hh
 have HR:Hid (num 4294967296 (fun j=>f (o+j)) (n+1)=num 4294967296 (fun j=>f (o+j)) n+f (o+n)*4294967296 ^ n):=rfl
 clear F DP ra hrow hb hoff hf hh hlt hv
 generalize num 4294967296 (fun j=>f (o+j)) (n+1)=R at *
 generalize hDD:num 4294967296 h n=D at *
 have HDD:=Lib.hid hDD
 clear hDD
 go_enter Tryz.func151,Tryz.ntmps151
 go_wp2_with fail
 refine G.out.mono ?_
 rintro e w1 ⟨k,rfl,hgs,nq,hw1⟩
 have hk32:k<4294967296:=hgs.2.2
 have hrow1:Row .u32 117 w1 g sz f:=by rw [hw1];exact HRW.out
 have hb1:Rd .u32 w1 (some bd) n h:=by rw [hw1];exact HB.out
 have HWR:Hid (Wr g w w1):=by rw [hw1];exact⟨rfl,rfl,rfl,Nat.le_refl _,fun _ _ _=>rfl⟩
 have HGS:=Lib.hid hgs
 have DS:=Lib.hid (subTimes_any g o n c (some bd) n d sz k f h w1 hrow1 j0i3 (Nat.le_refl _) hk32 hb1 (fun _=>HO.out) (fun j hj=>HF.out j j0i3) HH.out j0i3)
 have HB1:=Lib.hid hb1
 clear hrow1 hb1 hgs hw1
 go_wp2_with fail
 refine DS.out.mono ?_
 rintro e w2 ⟨ov,F1,rfl,hst⟩
 have hov:ov<4294967296:=hst.1
 have hfn:F1 (o+n)=f (o+n):=hst.2.2.2.1 _ j0i3
 have hcell:=hst.2.1.cell (j:=o+n) j0i3
 rw [hfn] at hcell
 have hfz:=hst.2.1.frozen (o+n)
 have hfl:=HF.out n j0i3
 obtain⟨fn,hfne⟩ : ∃fn,fn=f (o+n):=⟨_,rfl⟩
 rw [← hfne] at hcell hfl hfn
 have HNUM:Hid (num 4294967296 (fun j=>F1 (o+j)) n+k*D=num 4294967296 (fun j=>f (o+j)) n+ov*4294967296 ^ n):=by
  have:=hst.2.2.2.2.2
  rw [HDD.out] at this
  exact this
 have HRe:Hid (R=num 4294967296 (fun j=>f (o+j)) n+fn*4294967296 ^ n):=by rw [hfne];exact HR.out
 have HST:=Lib.hid hst
 have HFN:=Lib.hid hfn
 clear hst hfne DS hfn
 by_cases hge:ov≤fn
 ·obtain⟨r1,r2⟩:=step_right HGS.out HDp.out HRe.out HNUM.out hge
  have R1:=Lib.hid r1
  have R2:=Lib.hid r2
  clear r1 r2
  have hwf:IntKind.u32.wrap ((fn:Int) - (ov:Int))=(fn:Int) - (ov:Int):=IntWalk.u32_in _ ⟨by omega,by omega⟩
  go_wp2
  go_ret
  obtain⟨s1,s2,s3,s4,s5,s6⟩:=HST.out
  have e1:((fn:Int) - (ov:Int))=((fn - ov:Nat):Int) := j0i3
  rw [e1]
  refine⟨upd F1 (o+n) (fn - ov),by rw [R1.out];rfl,s2.set_ _ _,HWR.out.trans (s3.setCell _ _),fun j hj=>?_,fun j hj=>?_,?_⟩
  ·rw [upd_ne _ _ _ j0i3];exact s4 j j0i3
  ·by_cases hjn:j=n
   ·subst hjn;rw [upd_same];omega
   ·rw [upd_ne _ _ _ j0i3];exact s5 j j0i3
  ·rw [num_succ,upd_same,num_congr (f':=fun j=>F1 (o+j)) n (fun j hj=>upd_ne _ _ _ j0i3)]
   exact R2.out
 ·have hy:num 4294967296 (fun j=>F1 (o+j)) n<4294967296 ^ n:=num_lt j0i3 n HST.out.2.2.2.2.1
  obtain⟨r1,r2,r3,r4⟩:=step_over HGS.out HDp.out HDP.out HRe.out HNUM.out hy j0i3
  have R2:=Lib.hid r2
  have R4:=Lib.hid r4
  subst r1
  clear r2 r4 hy
  have hw3:IntKind.u32.wrap ((fn:Int) - ((fn:Int)+1))=4294967295:=by rw [IntKind.wrap_u32];omega
  have hw5:IntKind.u32.wrap (-1)=4294967295:=by rw [IntKind.wrap_u32];rfl
  have hw4:IntKind.u32.wrap 4294967296=0:=by rw [IntKind.wrap_u32];rfl
  have DA:=Lib.hid (fun w9 hq1 hq2=>addTo_any g o n c (some bd) n d sz F1 h w9 hq1 j0i3 j0i3 (Nat.le_refl _) hd hq2 (fun _=>HO.out) (fun j hj=>HST.out.2.2.2.2.1 j hj) HH.out j0i3)
  have RW2:=Lib.hid HST.out.2.1
  have RB2:=Lib.hid (HB1.out.wr HO.out HST.out.2.2.1)
  have HBK:Hid (∀w9 w3 cr F2,AddInv w9 w3 g o sz n cr F1 (fun j=>if j<n then h j else 0) F2→cr=1∧num 4294967296 (fun j=>F2 (o+j)) n=R % D):=fun w9 w3 cr F2 hi=>step_back hi R4.out HDD.out
  go_wp2
  go_region_with (go_at_call 128;refine(DA.out (World.drew w2) RW2.out.drew RB2.out.drew).mono ?_;rintro e w3 ⟨cr,F2,rfl,hadd⟩;obtain⟨hcr,hnum⟩:=HBK.out _ _ _ _ hadd;subst hcr;have hcell3:=hadd.2.1.cell (j:=o+n) j0i3;rw [hadd.2.2.2.1 (o+n) j0i3,HFN.out] at hcell3;have hfz3:=hadd.2.1.frozen (o+n);have HADD:=Lib.hid hadd;have HNM:=Lib.hid hnum;clear hadd hnum)
  all_goals
   go_wp2
   go_ret
   obtain⟨a1,a2,a3,a4,a5,a6⟩:=HADD.out
   refine⟨upd F2 (o+n) 0,by rw [← R2.out,show((k - 1:Nat):Int)=(k:Int) - 1 from j0i3];rfl,a2.set_ _ 0,HWR.out.trans (HST.out.2.2.1.trans ((Wr.drew Wr.refl).trans (a3.setCell _ _))),fun j hj=>?_,fun j hj=>?_,?_⟩
   ·rw [upd_ne _ _ _ j0i3,a4 j j0i3];exact HST.out.2.2.2.1 j j0i3
   ·by_cases hjn:j=n
    ·subst hjn;rw [upd_same];omega
    ·rw [upd_ne _ _ _ j0i3];exact a5 j j0i3
   ·rw [num_succ,upd_same,num_congr (f':=fun j=>F2 (o+j)) n (fun j hj=>upd_ne _ _ _ j0i3),Nat.zero_mul,Nat.add_zero]
    exact HNM.out
end Go.Proofs.YtgilnmhejjpleaaGreat
namespace Go.Proofs.YtgilnmhejjpleaaGreat
open Go.RowKit
set_option maxHeartbeats 4000000 in
set_option maxRecDepth 100000 in
theorem len32_any(x:Int)(w:World)(h0:0≤x)(h1:x≤4294967295) :
 Calls Tryz.prog 153 #[.int .u32 x] w fun e w'=>e = .returned (.int .i64 (Lib.bitLen x.toNat))∧w'=w:=by
 rcases Int.lt_or_le x 65536 with c1 | c1
 ·rcases Int.lt_or_le x 256 with c2 | c2
  ·have d0:0≤x:=by omega
   have d1:x≤255 := j0i3
   have d2:=Lib.hid (Lib.len8_of (x) d0 d1)
   have d3:=Lib.hid (Lib.bitLen_le8' (x) d0 d1)
   go_enter Tryz.func153,Tryz.ntmps153
   go_wp2
   go_ret
   refine⟨congrArg Ending.returned (congrArg (Value.int IntKind.i64) ?_),rfl⟩
   have k2:=d2.out
   have k3:=d3.out
   rw [k2]
   simp only [wrap64]
   omega
  ·have d0:0≤x / 256:=by omega
   have d1:x / 256≤255 := j0i3
   have d2:=Lib.hid (Lib.len8_of (x / 256) d0 d1)
   have d3:=Lib.hid (Lib.bitLen_le8' (x / 256) d0 d1)
   have d4:=Lib.hid (Lib.bitLen_shift8 x.toNat j0i3 j0i3)
   have d5:(x / 256).toNat=x.toNat / 256 := j0i3
   have D5:=Lib.hid d5
   clear d5
   go_enter Tryz.func153,Tryz.ntmps153
   go_wp2
   go_ret
   refine⟨congrArg Ending.returned (congrArg (Value.int IntKind.i64) ?_),rfl⟩
   have k2:=d2.out
   have k3:=d3.out
   have k4:=d4.out
   rw [D5.out] at k2 k3
   rw [k2]
   simp only [wrap64]
   omega
 ·rcases Int.lt_or_le x 16777216 with c2 | c2
  ·have d0:0≤x / 65536:=by omega
   have d1:x / 65536≤255 := j0i3
   have d2:=Lib.hid (Lib.len8_of (x / 65536) d0 d1)
   have d3:=Lib.hid (Lib.bitLen_le8' (x / 65536) d0 d1)
   have d4:=Lib.hid (Lib.bitLen_shift16 x.toNat j0i3 j0i3)
   have d5:(x / 65536).toNat=x.toNat / 65536 := j0i3
   have D5:=Lib.hid d5
   clear d5
   go_enter Tryz.func153,Tryz.ntmps153
   go_wp2
   go_ret
   refine⟨congrArg Ending.returned (congrArg (Value.int IntKind.i64) ?_),rfl⟩
   have k2:=d2.out
   have k3:=d3.out
   have k4:=d4.out
   rw [D5.out] at k2 k3
   rw [k2]
   simp only [wrap64]
   omega
  ·have d0:0≤x / 65536 / 256:=by omega
   have d1:x / 65536 / 256≤255 := j0i3
   have d2:=Lib.hid (Lib.len8_of (x / 65536 / 256) d0 d1)
   have d3:=Lib.hid (Lib.bitLen_le8' (x / 65536 / 256) d0 d1)
   have d4:=Lib.hid (Lib.bitLen_shift24 x.toNat j0i3 j0i3)
   have d5:(x / 65536 / 256).toNat=x.toNat / 16777216 := j0i3
   have D5:=Lib.hid d5
   clear d5
   go_enter Tryz.func153,Tryz.ntmps153
   go_wp2
   go_ret
   refine⟨congrArg Ending.returned (congrArg (Value.int IntKind.i64) ?_),rfl⟩
   have k2:=d2.out
   have k3:=d3.out
   have k4:=d4.out
   rw [D5.out] at k2 k3
   rw [k2]
   simp only [wrap64]
   omega
theorem lead_bounds(x:Nat)(hx:x<4294967296)(h0:0<x) : ∃s,Lib.bitLen x+s=32∧s<32∧2147483648≤x*2 ^ s∧x*2 ^ s<4294967296:=by
 obtain⟨h1,h2,h3⟩:=Lib.bitLenAux_bounds 64 x j0i3 j0i3
 have h4:=Lib.bitLen_le x 32 j0i3 j0i3
 have h5:Lib.bitLen x=Lib.bitLenAux 64 x:=rfl
 rw [← h5] at h1 h2 h3
 generalize Lib.bitLen x=b at *
 refine⟨32 - b,by omega,by omega,?_,?_⟩
 ·have:2 ^ (b - 1)*2 ^ (32 - b)≤x*2 ^ (32 - b):=Nat.mul_le_mul_right _ h2
  rw [← Nat.pow_add,show b - 1+(32 - b)=31 from j0i3] at this
  omega
 ·have:x*2 ^ (32 - b)<2 ^ b*2 ^ (32 - b):=Nat.mul_lt_mul_of_pos_right h3 (Nat.pow_pos j0i3)
  rw [← Nat.pow_add,show b+(32 - b)=32 from j0i3] at this
  omega
theorem lead_any(x:Nat)(w:World)(hx:x<4294967296)(h0:0<x) :
 Calls Tryz.prog 147 #[.int .u32 (x:Nat)] w fun e w'=>(∃s,e = .returned (.int .i64 (s:Nat))∧s<32∧2147483648≤x*2 ^ s∧x*2 ^ s<4294967296)∧w'=w:=by
 have L:=len32_any (x:Nat) w j0i3 j0i3
 obtain⟨s,h1,h2,h3,h4⟩:=lead_bounds x hx h0
 have H:=Lib.hid (show ∃s,(32:Int) - (Lib.bitLen x:Int)=(s:Nat)∧s<32∧2147483648≤x*2 ^ s∧x*2 ^ s<4294967296 from⟨s,by omega,h2,h3,h4⟩)
 have hb:Lib.bitLen x≤32 := j0i3
 rw [Int.toNat_natCast] at L
 clear h3 h4
 generalize Lib.bitLen x=b at *
 go_enter Tryz.func147,Tryz.ntmps147
 go_wp2_with fail
 refine L.mono ?_
 rintro e w' ⟨rfl,rfl⟩
 go_wp2
 go_ret
 obtain⟨s,h1,h2,h3,h4⟩:=H.out
 exact⟨⟨s,by rw [h1];rfl,h2,h3,h4⟩,rfl⟩
end Go.Proofs.YtgilnmhejjpleaaGreat
namespace Go.Proofs.YtgilnmhejjpleaaGreat
open Go.RowKit
theorem pow31 {s:Nat}(hs:s<32):2 ^ s≤2147483648:=Nat.le_trans (Nat.pow_le_pow_right j0i3 (show s≤31 by omega)) jpu1
theorem norm_top {h F:Nat→Nat} {k s:Nat}(hs:s<32)(hh : ∀j,j<k+1→h j<4294967296)(h1:2147483648≤h k*2 ^ s)(h2:h k*2 ^ s<4294967296)
 (hF : ∀j,j<k+1+1→F j<4294967296) (hN:num 4294967296 F (k+1+1)=2 ^ s*num 4294967296 h (k+1)) :
 num 4294967296 F (k+1)=2 ^ s*num 4294967296 h (k+1)∧2147483648≤F k∧2147483648*4294967296 ^ k≤2 ^ s*num 4294967296 h (k+1):=by
 have a1:num 4294967296 h (k+1)=num 4294967296 h k+h k*4294967296 ^ k:=rfl
 have a2:num 4294967296 h k<4294967296 ^ k:=num_lt j0i3 k (fun j hj=>hh j j0i3)
 have a3:h k+1≤2 ^ (32 - s):=by
  have e:(4294967296:Nat)=2 ^ (32 - s)*2 ^ s := j258
  rw [e] at h2
  exact Nat.lt_of_mul_lt_mul_right h2
 have a4:(h k+1)*2 ^ s≤4294967296:=by
  have e:(4294967296:Nat)=2 ^ (32 - s)*2 ^ s := j258
  rw [e]
  exact Nat.mul_le_mul_right _ a3
 have a5:2 ^ s*num 4294967296 h (k+1)<4294967296*4294967296 ^ k:=by
  have:num 4294967296 h (k+1)<(h k+1)*4294967296 ^ k:=by rw [a1,Nat.add_mul,Nat.one_mul];omega
  have b1:2 ^ s*num 4294967296 h (k+1)<2 ^ s*((h k+1)*4294967296 ^ k):=Nat.mul_lt_mul_of_pos_left this (Nat.pow_pos j0i3)
  have b2:2 ^ s*((h k+1)*4294967296 ^ k)≤4294967296*4294967296 ^ k:=by
   rw [← Nat.mul_assoc,Nat.mul_comm (2 ^ s)]
   exact Nat.mul_le_mul_right _ a4
  omega
 have a6:2147483648*4294967296 ^ k≤2 ^ s*num 4294967296 h (k+1):=by
  have b1:2147483648*4294967296 ^ k≤h k*2 ^ s*4294967296 ^ k:=Nat.mul_le_mul_right _ h1
  have b2:2 ^ s*(h k*4294967296 ^ k)≤2 ^ s*num 4294967296 h (k+1):=Nat.mul_le_mul_left _ (by rw [a1];omega)
  rw [← Nat.mul_assoc,Nat.mul_comm (2 ^ s) (h k)] at b2
  omega
 have a7:F (k+1)=0:=by
  rw [num_succ,Nat.pow_succ,Nat.mul_comm (4294967296 ^ k)] at hN
  rcases Nat.eq_zero_or_pos (F (k+1)) with h0 | h0
  ·exact h0
  ·have:1*(4294967296*4294967296 ^ k)≤F (k+1)*(4294967296*4294967296 ^ k):=Nat.mul_le_mul_right _ h0
   omega
 have a8:num 4294967296 F (k+1)=2 ^ s*num 4294967296 h (k+1):=by
  rw [num_succ,a7,Nat.zero_mul,Nat.add_zero] at hN
  exact hN
 refine⟨a8,?_,a6⟩
 have a9:num 4294967296 F k<4294967296 ^ k:=num_lt j0i3 k (fun j hj=>hF j j0i3)
 have a10:num 4294967296 F (k+1)=num 4294967296 F k+F k*4294967296 ^ k:=rfl
 have a11:2147483648*4294967296 ^ k<(F k+1)*4294967296 ^ k:=by rw [Nat.add_mul,Nat.one_mul];omega
 have:=Nat.lt_of_mul_lt_mul_right a11
 omega
theorem long_start {f F:Nat→Nat} {n k s D t:Nat}(hs:s<32)(hf : ∀j,j<n→f j<4294967296)(hF : ∀j,j<n+1→F j<4294967296)(hN:num 4294967296 F (n+1)=2 ^ s*num 4294967296 f n)
 (hD:2147483648*4294967296 ^ k≤D) (ht:t+k=n):num 4294967296 (fun i=>F (t+i)) (k+1)<D:=by
 have a1:=num_lt (B:=4294967296) j0i3 n hf
 have a2:F n<2 ^ s:=by
  have b1:F n*4294967296 ^ n≤num 4294967296 F (n+1):=by rw [num_succ];omega
  have b2:2 ^ s*num 4294967296 f n<2 ^ s*4294967296 ^ n:=Nat.mul_lt_mul_of_pos_left a1 (Nat.pow_pos j0i3)
  exact Nat.lt_of_mul_lt_mul_right (a:=4294967296 ^ n) j0i3
 have a3:num 4294967296 (fun i=>F (t+i)) k<4294967296 ^ k:=num_lt j0i3 k (fun j hj=>hF _ j0i3)
 have a4:num 4294967296 (fun i=>F (t+i)) (k+1)=num 4294967296 (fun i=>F (t+i)) k+F n*4294967296 ^ k:=by rw [num_succ,ht]
 have a5:(F n+1)*4294967296 ^ k≤2147483648*4294967296 ^ k:=Nat.mul_le_mul_right _ (by have:=pow31 hs;omega)
 rw [Nat.add_mul,Nat.one_mul] at a5
 omega
def LongNum(m n n' t D R:Nat)(F Q:Nat→Nat):Prop :=
 (∀j,j<n+1→F j<4294967296)∧(∀j,t+m≤j→j<n+1→F j=0)∧(∀j,j<n'→Q j<4294967296)∧num 4294967296 (fun i=>F (t+i)) m<D∧
  num 4294967296 F (t+m)+D*(4294967296 ^ t*num 4294967296 (fun i=>Q (t+i)) (n' - t))=R
theorem long_seg {m n n' j D R:Nat} {F Q:Nat→Nat}(hi:LongNum m n n' (j+1) D R F Q)(hj:j<n+1):num 4294967296 (fun i=>F (j+i)) (m+1)<D*4294967296:=by
 obtain⟨h1,h2,h3,h4,h5⟩:=hi
 rw [num_first j0i3,Nat.add_sub_cancel]
 have e:(fun i=>F (j+(i+1)))=fun i=>F (j+1+i):=funext fun i=>by rw [Nat.add_assoc,Nat.add_comm 1 i]
 simp only [e,Nat.add_zero]
 have:=h1 j hj
 omega
theorem long_step {m n n' j D R:Nat} {F Q F':Nat→Nat}(hi:LongNum m n n' (j+1) D R F Q)(hjn:j+m<n+1)(hj':j<n')(hDm:D≤4294967296 ^ m)(hD:0<D)
 (a1 : ∀i,¬ (j≤i∧i<j+(m+1))→F' i=F i) (a2 : ∀i,i<m+1→F' (j+i)<4294967296) (a3:num 4294967296 (fun i=>F' (j+i)) (m+1)=num 4294967296 (fun i=>F (j+i)) (m+1) % D) :
 LongNum m n n' j D R F' (upd Q j (num 4294967296 (fun i=>F (j+i)) (m+1) / D)):=by
 have hs:=long_seg hi j0i3
 obtain⟨h1,h2,h3,h4,h5⟩:=hi
 have hm:=Nat.mod_lt (num 4294967296 (fun i=>F (j+i)) (m+1)) hD
 have hdm:=Nat.div_add_mod (num 4294967296 (fun i=>F (j+i)) (m+1)) D
 have hk:num 4294967296 (fun i=>F (j+i)) (m+1) / D<4294967296:=(Nat.div_lt_iff_lt_mul hD).2 (by rw [Nat.mul_comm];exact hs)
 have e1:num 4294967296 F (j+1+m)=num 4294967296 F j+4294967296 ^ j*num 4294967296 (fun i=>F (j+i)) (m+1):=by
  rw [show j+1+m=j+(m+1) from by omega,num_add]
 rw [e1] at h5
 clear e1
 generalize num 4294967296 (fun i=>F (j+i)) (m+1)=seg at *
 generalize seg / D=k at *
 generalize seg % D=r at *
 have hz:F' (j+m)=0:=by
  rw [num_succ] at a3
  rcases Nat.eq_zero_or_pos (F' (j+m)) with h0 | h0
  ·exact h0
  ·have:1*4294967296 ^ m≤F' (j+m)*4294967296 ^ m:=Nat.mul_le_mul_right _ h0
   omega
 have a4:num 4294967296 (fun i=>F' (j+i)) m=r:=by
  rw [num_succ,hz,Nat.zero_mul,Nat.add_zero] at a3
  exact a3
 refine⟨fun i hi=>?_,fun i hi hi2=>?_,fun i hi=>?_,by rw [a4];exact hm,?_⟩
 ·by_cases hc:j≤i∧i<j+(m+1)
  ·have:=a2 (i - j) j0i3
   rwa [show j+(i - j)=i from j0i3] at this
  ·rw [a1 i hc];exact h1 i hi
 ·by_cases hc:i=j+m
  ·subst hc;exact hz
  ·rw [a1 i j0i3];exact h2 i j0i3 hi2
 ·by_cases hc:i=j
  ·subst hc;rw [upd_same];exact hk
  ·rw [upd_ne _ _ _ hc];exact h3 i hi
 ·have e2:num 4294967296 F' (j+m)=num 4294967296 F j+4294967296 ^ j*r:=by
   rw [num_add,a4,num_congr j (fun i hi=>a1 i j0i3)]
  have e3:num 4294967296 (fun i=>upd Q j k (j+i)) (n' - j)=k+4294967296*num 4294967296 (fun i=>Q (j+1+i)) (n' - (j+1)):=by
   rw [num_first j0i3,Nat.add_zero,upd_same,show n' - j - 1=n' - (j+1) from j0i3]
   rw [num_congr (f':=fun i=>Q (j+1+i)) _ (fun i hi=>by show upd Q j k (j+(i+1))=Q (j+1+i);rw [upd_ne _ _ _ j0i3,show j+(i+1)=j+1+i from j0i3])]
  rw [e2,e3,← h5,← hdm]
  generalize num 4294967296 (fun i=>Q (j+1+i)) (n' - (j+1))=q
  generalize num 4294967296 F j=x
  rw [Nat.pow_succ]
  generalize 4294967296 ^ j=P
  rw [Nat.mul_add P (D*k),Nat.mul_left_comm P D k,Nat.mul_assoc P,Nat.mul_add P k,Nat.mul_add D]
  omega
theorem long_end {m n n' D R:Nat} {F Q:Nat→Nat}(hi:LongNum m n n' 0 D R F Q)(hm:m≤n+1):num 4294967296 Q n'=R / D∧num 4294967296 F (n+1)=R % D:=by
 obtain⟨h1,h2,h3,h4,h5⟩:=hi
 simp only [Nat.zero_add,Nat.pow_zero,Nat.one_mul,Nat.sub_zero] at h2 h4 h5
 have e:num 4294967296 F (n+1)=num 4294967296 F m:=by
  rw [show n+1=m+(n+1 - m) from by omega,num_add,num_zeros (n+1 - m) (fun j hj=>h2 _ j0i3 j0i3),Nat.mul_zero,Nat.add_zero]
 rw [e]
 have hD:0<D := j0i3
 generalize num 4294967296 F m=x at *
 generalize num 4294967296 Q n'=q at *
 subst h5
 rw [Nat.add_mul_div_left _ _ hD,Nat.div_eq_of_lt h4,Nat.add_mul_mod_self_left,Nat.mod_eq_of_lt h4]
 omega
theorem unshift {s X Y q r:Nat}(h:q=2 ^ s*X / (2 ^ s*Y)∧r=2 ^ s*X % (2 ^ s*Y)):q=X / Y∧r / 2 ^ s=X % Y:=by
 have hp:0<2 ^ s:=Nat.pow_pos j0i3
 obtain⟨rfl,rfl⟩:=h
 rw [Nat.mul_div_mul_left _ _ hp,Nat.mul_mod_mul_left,Nat.mul_div_cancel_left _ hp]
 exact⟨rfl,rfl⟩
end Go.Proofs.YtgilnmhejjpleaaGreat
namespace Go.Proofs.YtgilnmhejjpleaaGreat
open Go.RowKit
def LongPost(w w':World)(e:Ending)(X Y:Nat):Prop :=
 ∃vq vr,e = .returned (.tuple #[vq,vr])∧IsNat w' vq (X / Y)∧IsNat w' vr (X % Y)∧Below w.heap.size w w'
def LongMem(w wr:World)(g1 g2 g3 m n n':Nat)(Fd F Q:Nat→Nat):Prop :=
 Row .u32 117 wr g2 (n+1) F∧Row .u32 117 wr g3 n' Q∧Rd .u32 wr (some ⟨g1,0,none⟩) m Fd∧Below w.heap.size w wr∧w.heap.size≤g2∧w.heap.size≤g3∧g2≠g3∧g1≠g2∧g1≠g3
theorem LongMem.step {w wr w2:World} {g1 g2 g3 m n n':Nat} {Fd F F' Q:Nat→Nat}(h:LongMem w wr g1 g2 g3 m n n' Fd F Q)(r:Row .u32 117 w2 g2 (n+1) F')(hw:Wr g2 wr w2) :
 LongMem w w2 g1 g2 g3 m n n' Fd F' Q:=by
 obtain⟨h1,h2,h3,h4,h5,h6,h7,h8,h9⟩:=h
 exact⟨r,h2.wr (Ne.symm h7) hw,h3.wr (fun ad e=>by injection e with e;subst e;exact h8) hw,hw.below h4 h4.size h5,h5,h6,h7,h8,h9⟩
theorem LongMem.store {w wr:World} {g1 g2 g3 m n n':Nat} {Fd F Q:Nat→Nat}(h:LongMem w wr g1 g2 g3 m n n' Fd F Q)(j v:Nat) :
 LongMem w (wr.setCell ⟨g3,j,none⟩ (.int .u32 (v:Nat))) g1 g2 g3 m n n' Fd F (upd Q j v):=by
 obtain⟨h1,h2,h3,h4,h5,h6,h7,h8,h9⟩:=h
 have hw:=Wr.set_ wr g3 j (.int .u32 (v:Nat))
 exact⟨h1.wr h7 hw,h2.set_ _ _,h3.wr (fun ad e=>by injection e with e;subst e;exact h9) hw,hw.below h4 h4.size h6,h5,h6,h7,h8,h9⟩
set_option maxHeartbeats 2000000 in
theorem divLong_any(A:Option Addr)(n c:Nat)(f:Nat→Nat)(B:Option Addr)(k d:Nat)(h:Nat→Nat)(w:World)(ha:Rd .u32 w A n f)(hn:n≤8796093022207)(hf : ∀j,j<n→f j<4294967296)
 (hb:Rd .u32 w B (k+1) h) (hk:1≤k) (hkn:k+1≤n) (hh : ∀j,j<k+1→h j<4294967296) (ht:h k≠0) :
 Calls Tryz.prog 146 #[.slice A n c,.slice B (k+1:Nat) d] w fun e w'=>LongPost w w' e (num 4294967296 f n) (num 4294967296 h (k+1)):=by
 obtain⟨bd,rfl,_⟩:=hb 0 j0i3
 have hc0:=hb.at_ (j:=k) j0i3
 have HL:=Lib.hid (fun w=>lead_any (h k) w (hh k j0i3) j0i3)
 have HA:=Lib.hid ha
 have HB:=Lib.hid hb
 have HF:=Lib.hid hf
 have HH:=Lib.hid hh
 clear ha hb hf hh
 go_enter Tryz.func146,Tryz.ntmps146
 go_wp2_with fail
 refine(HL.out _).mono ?_
 rintro e w' ⟨⟨s,rfl,hs,n1,n2⟩,rfl⟩
 have N1:=Lib.hid n1
 have N2:=Lib.hid n2
 clear n1 n2 hc0
 have U1:=Lib.hid (shiftUp_any (some bd) (k+1) d s h w' HB.out hs j0i3 HH.out)
 go_wp2_with fail
 refine U1.out.mono ?_
 rintro e w1 ⟨Fd,rfl,hrd,hbd,hfd,hnd⟩
 have NT:=Lib.hid (norm_top hs HH.out N1.out N2.out hfd hnd)
 have HFD:=Lib.hid (fun j (hj:j<k+1)=>hfd j j0i3)
 have HD:=Lib.hid (hrd.rd0 (n:=k+1) j0i3)
 have HA1:=Lib.hid (HA.out.below hbd)
 have HB1:=Lib.hid hbd
 have hg1:=hrd.lt
 clear hfd hnd hrd hbd HB U1
 have U2:=Lib.hid (shiftUp_any A n c s f w1 HA1.out hs j0i3 HF.out)
 go_wp2_with fail
 refine U2.out.mono ?_
 rintro e w2 ⟨Fr,rfl,hrr,hbr,hfr,hnr⟩
 obtain⟨t0,ht0⟩ : ∃t0,t0+k=n:=⟨n - k,by omega⟩
 have ST:=Lib.hid (long_start hs HF.out hfr hnr NT.out.2.2 ht0)
 have HFR:=Lib.hid hfr
 have HNR:=Lib.hid hnr
 have HR2:=Lib.hid hrr
 have HD2:=Lib.hid (HD.out.below hbr)
 have HB2:=Lib.hid (below_trans HB1.out hbr)
 have hg2:=hrr.lt
 have hs1:=hbr.size
 have hs0:=HB1.out.size
 clear hfr hnr hrr hbr U2 HD HB1 HA1
 have hsub:(n:Int) - ((k+1:Nat):Int)+1=(t0:Int) := j0i3
 have hsub2:(n:Int) - ((k:Int)+1)+1=(t0:Int) := j0i3
 generalize hG1:w'.heap.size=g1 at *
 generalize hG2:w1.heap.size=g2 at *
 go_wp2_with (at_make;refine wpList_make_row rfl _ _ 32 rfl .u32 117 Tryz.underlying32 4 u32_info j0i3 .i64 .i64 _ _ t0 rfl rfl j0i3 j0i3 j0i3 ?_;intro w3 hrow3 hb3 hs3)
 have HR3:=Lib.hid hrow3
 have M0:=Lib.hid (show LongMem w' w3 g1 g2 w2.heap.size (k+1) n t0 Fd Fr (fun _=>0) from
  ⟨HR2.out.keep hb3,hrow3,HD2.out.below hb3,by rw [hG1];exact HB2.out.trans (hb3.mono j0i3),by omega,by omega,by omega,by omega,by omega⟩)
 have hDL:=num_lt (B:=4294967296) j0i3 (k+1) HFD.out
 rw [NT.out.1] at hDL
 have hD0:0<2 ^ s*num 4294967296 h (k+1):=by
  have:=NT.out.2.2
  have hp:0<4294967296 ^ k:=Nat.pow_pos j0i3
  omega
 have L0:=Lib.hid (show LongNum (k+1) n t0 (t0 - 0) (2 ^ s*num 4294967296 h (k+1)) (2 ^ s*num 4294967296 f n) Fr (fun _=>0) from
  ⟨HFR.out,fun j a b=>by omega,fun j _=>by show(0:Nat)<4294967296;omega,ST.out,by
   rw [Nat.sub_zero,Nat.sub_self,show t0+(k+1)=n+1 from by omega,HNR.out];simp [num]⟩)
 have HDL:=Lib.hid hDL
 have HD0:=Lib.hid hD0
 have NT1:=Lib.hid NT.out.1
 have NT2:=Lib.hid NT.out.2.1
 obtain⟨g3,hG3⟩ : ∃g3,g3=w2.heap.size:=⟨_,rfl⟩
 rw [← hG3] at M0 HR3 ⊢
 clear hDL hD0 hG3 hb3 hs3 hrow3 HR2 HD2 HB2 HFR HNR ST NT hs1 hs0 hg1 hg2 HR3
 generalize hDe:2 ^ s*num 4294967296 h (k+1)=D at *
 generalize hRe:2 ^ s*num 4294967296 f n=R at *
 have HDe:=Lib.hid hDe
 have HRe:=Lib.hid hRe
 clear hDe hRe hG1 hG2
 go_loopw [36] (fun v36 wr => ∃i F Q,i≤t0∧v36 = .int .i64 (i:Nat)∧LongMem w' wr g1 g2 g3 (k+1) n t0 Fd F Q∧LongNum (k+1) n t0 (t0 - i) D R F Q) (fun v36 _=>t0 - (intOf v36).toNat)
 case atStart=>exact⟨0,Fr,_,Nat.zero_le _,rfl,M0.out,L0.out⟩
 case round =>
  obtain⟨i,F,Q,hi,rfl,hmem,hnum⟩:=hrel
  clear M0 L0
  have HM:=Lib.hid hmem
  clear hmem
  by_cases hlt:i<t0
  ·obtain⟨j,hj⟩ : ∃j,j+1+i=t0:=⟨t0 - 1 - i,by omega⟩
   rw [show t0 - i=j+1 from j0i3] at hnum
   have hj1:(t0:Int) - 1 - (i:Int)=(j:Int) := j0i3
   have DS:=Lib.hid (divStep_any g2 j (k+1) (n+1 - j) (n+1) (some ⟨g1,0,none⟩) (k+1+1) F Fd wr HM.out.1 j0i3 j0i3 j0i3 j0i3 j0i3 HM.out.2.2.1
    (fun ad e=>by injection e with e;subst e;exact HM.out.2.2.2.2.2.2.2.1) (fun x hx=>hnum.1 _ j0i3) HFD.out (by simpa using NT2.out) (by rw [NT1.out];exact long_seg hnum j0i3))
   have HN:=Lib.hid hnum
   clear hnum
   go_wp2_with fail
   rw [show j+(k+1)+1 - j=k+1+1 from j0i3]
   refine DS.out.mono ?_
   rintro e w4 ⟨Fp,rfl,p1,p2,p3,p4,p5⟩
   rw [NT1.out] at p5 ⊢
   have HM2:=Lib.hid (HM.out.step p1 p2)
   have HN2:=Lib.hid (long_step HN.out j0i3 j0i3 (Nat.le_of_lt HDL.out) HD0.out p3 p4 p5)
   have hcell:=HM2.out.2.1.cell (j:=j) j0i3
   have hfz:=HM2.out.2.1.frozen j
   clear p1 p2 p3 p4 p5 HM HN DS
   generalize num 4294967296 (fun i=>F (j+i)) (k+1+1) / D=q at *
   have HM3:=Lib.hid (HM2.out.store j q)
   clear HM2
   go_wp2
   go_roundw
   case rel=>exact⟨i+1,Fp,_,by omega,by go_num,HM3.out,by rw [show t0 - (i+1)=j from j0i3];exact HN2.out⟩
   case measure=>simp [intOf];omega
  ·obtain rfl:i=t0:=by omega
   rw [Nat.sub_self] at hnum
   have LE:=Lib.hid (unshift (s:=s) (X:=num 4294967296 f n) (Y:=num 4294967296 h (k+1)) ji7r)
   have HQ:=Lib.hid hnum.2.2.1
   have HFF:=Lib.hid hnum.1
   have SD:=Lib.hid (shiftDown_any g2 (n+1) (n+1) s F wr HM.out.1 hs j0i3 HFF.out)
   clear hnum
   go_wp2_with fail
   refine SD.out.mono ?_
   rintro e w5 ⟨F5,rfl,d1,d2,d3,d4⟩
   have hM:=HM.out.step d1 d2
   have n1:num 4294967296 F5 (n+1)=num 4294967296 f n % num 4294967296 h (k+1):=by
    rw [num_congr _ d3,num_sd s hs (n+1) F HFF.out];exact LE.out.2
   have l1 : ∀j,j<n+1→F5 j<4294967296:=fun j hj=>by rw [d3 j hj];exact Nat.mod_lt _ j0i3
   have I1:=Lib.hid (isNat_row (c:=i) hM.2.1 (Nat.le_refl _) (Nat.le_refl _) HQ.out LE.out.1)
   have I2:=Lib.hid (isNat_row (c:=n+1) hM.1 (Nat.le_refl _) (Nat.le_refl _) l1 n1)
   have I3:=Lib.hid hM.2.2.2.1
   have C1:=Lib.hid (cut_any _ i i Q w5 (hM.2.1.rd0 (Nat.le_refl _)) (Nat.le_refl _) j0i3)
   have C2:=Lib.hid (cut_any _ (n+1) (n+1) F5 w5 (hM.1.rd0 (Nat.le_refl _)) (Nat.le_refl _) j0i3)
   clear hM n1 l1 d1 d2 d3 d4 SD HM LE HQ HFF
   go_wp2_with fail
   refine C1.out.mono ?_
   rintro e w6 ⟨rfl,rfl⟩
   go_wp2_with fail
   refine C2.out.mono ?_
   rintro e w6 ⟨rfl,rfl⟩
   go_wp2
   go_ret2
   exact⟨_,_,rfl,I1.out,I2.out,I3.out⟩
end Go.Proofs.YtgilnmhejjpleaaGreat
namespace Go.Proofs.YtgilnmhejjpleaaGreat
open Go.RowKit
set_option maxHeartbeats 1000000 in
theorem div_long(A:Option Addr)(n c:Nat)(f:Nat→Nat)(B:Option Addr)(m d:Nat)(h:Nat→Nat)(w:World)(ha:Rd .u32 w A n f)(hc:n≤c)(hn:n≤8796093022207)(hf : ∀j,j<n→f j<4294967296)
 (hb:Rd .u32 w B m h) (hd:m≤d) (hm:m≤8796093022207) (hh : ∀j,j<m→h j<4294967296) (h1:2≤tlen h m) (hge:tlen h m≤tlen f n) (h2:2<tlen f n) :
 Calls Tryz.prog 139 #[.slice A n c,.slice B m d] w fun e w'=>DivPost w w' e (num 4294967296 f n) (num 4294967296 h m):=by
 have hpn:=tlen_le (f:=f) n
 have hsm:=tlen_le (f:=h) m
 have C1:=fun w' hr'=>cut_any A n c f w' hr' hc j0i3
 have C2:=fun w' hr'=>cut_any B m d h w' hr' hd j0i3
 have hy0:=(tlen_trimmed (f:=h) m).pos (B:=4294967296) j0i3 j0i3
 have HN:=num_tlen (B:=4294967296) (f:=f) n
 have HM:=num_tlen (B:=4294967296) (f:=h) m
 rw [HM] at hy0
 obtain⟨k,hk⟩ : ∃k,tlen h m=k+1:=⟨tlen h m - 1,by omega⟩
 have htop:h k≠0:=by
  rcases tlen_trimmed (f:=h) m with h0 | h0
  ·omega
  ·rwa [hk] at h0
 have ha':=ha.less hpn
 have hb':=hb.less hsm
 have hf':=tlen_lt_dig hf
 have hh':=tlen_lt_dig hh
 rw [hk] at C2 hb' hh' HM hge hsm
 have DL:=Lib.hid (divLong_any A (tlen f n) c f B k d h w ha' j0i3 hf' hb' j0i3 hge hh' htop)
 rw [HN,HM] at DL
 have HE:Hid (decide (0<num 4294967296 h m)=true):=decide_eq_true hy0
 have HY:=Lib.hid hy0
 have D1:=Lib.hid C1
 have D2:=Lib.hid C2
 clear C1 C2 hy0 HN HM ha' hb' hf' hh' htop hf hh
 generalize tlen f n=p at *
 have hk1:1≤k := j0i3
 clear hk h1
 go_enter Tryz.func139,Tryz.ntmps139
 go_wp2_with fail
 refine(D1.out _ ha).mono ?_
 rintro e w' ⟨rfl,rfl⟩
 go_wp2_with fail
 refine(D2.out _ hb).mono ?_
 rintro e w' ⟨rfl,rfl⟩
 clear D1 D2 ha hb
 have hg1:(((k+1:Nat):Int) == 0)=false := jyif
 have hg2:(((k+1:Nat):Int) == 1)=false := jyif
 have hg3:(((k:Int)+1) == 0)=false := jyif
 have hg4:(((k:Int)+1) == 1)=false := jyif
 go_wp2_with fail
 refine DL.out.mono ?_
 rintro e w1 ⟨vq,vr,rfl,q1,q2,q3⟩
 have Q1:=Lib.hid q1
 have Q2:=Lib.hid q2
 have Q3:=Lib.hid q3
 clear q1 q2 q3 DL
 go_wp2
 go_ret3
 exact⟨_,_,by rw [HE.out];rfl,Q1.out,by rw [if_neg (Nat.ne_of_gt HY.out)];exact Q2.out,Q3.out⟩
theorem div_any(A:Option Addr)(n c:Nat)(f:Nat→Nat)(B:Option Addr)(m d:Nat)(h:Nat→Nat)(w:World)(ha:Rd .u32 w A n f)(hc:n≤c)(hn:n≤8796093022207)(hf : ∀j,j<n→f j<4294967296)
 (hb:Rd .u32 w B m h) (hd:m≤d) (hm:m≤8796093022207) (hh : ∀j,j<m→h j<4294967296) :
 Calls Tryz.prog 139 #[.slice A n c,.slice B m d] w fun e w'=>DivPost w w' e (num 4294967296 f n) (num 4294967296 h m):=by
 by_cases h0:tlen h m=0
 ·exact div_zero A n c f B m d h w ha hc j0i3 hb hd j0i3 h0
 by_cases h1:tlen f n<tlen h m
 ·exact div_less A n c f B m d h w ha hc j0i3 hf hb hd j0i3 h1
 by_cases h2:tlen f n≤2
 ·exact div_two A n c f B m d h w ha hc j0i3 hf hb hd j0i3 hh j0i3 j0i3 h2
 by_cases h3:tlen h m=1
 ·exact div_one A n c f B m d h w ha hc j0i3 hf hb hd j0i3 hh h3 j0i3
 exact div_long A n c f B m d h w ha hc hn hf hb hd hm hh j0i3 j0i3 j0i3
theorem lim_div {k m N M:Nat} {w:World} {v1 v2:Value}(h1:Lim k w v1 N)(h2:Lim m w v2 M)(hk:k≤1000000)(hm:m≤1000000):Calls Tryz.prog 139 #[v1,v2] w fun e w'=>DivPost w w' e N M:=by
 obtain⟨A,n,c,f,rfl,a1,a2,a3,a4,rfl⟩:=h1
 obtain⟨B,m,d,h,rfl,b1,b2,b3,b4,rfl⟩:=h2
 exact div_any A n c f B m d h w a2 a1 j0i3 a3 b2 b1 j0i3 b3
end Go.Proofs.YtgilnmhejjpleaaGreat
