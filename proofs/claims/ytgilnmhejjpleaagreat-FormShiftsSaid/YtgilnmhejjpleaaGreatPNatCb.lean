/- Merged of Re. -/
import Derived.Test.YtgilnmhejjpleaaGreatPNatC
namespace Go.Proofs.YtgilnmhejjpleaaGreat
open Go.RowKit
def RinInv(wr:World)(g sz i k cy a:Nat)(h F F':Nat→Nat):Prop :=
 Row .i64 3 wr g sz F'∧cy<256∧(∀j,j<sz→F' j<256)∧(∀j,¬ (i≤j∧j<i+k)→F' j=F j)∧
  num 256 (fun j=>F' (i+j)) k+cy*256 ^ k=num 256 (fun j=>F (i+j)) k+a*num 256 h k
theorem RinInv.step {wr:World} {g sz i k cy a s:Nat} {h F F':Nat→Nat}(hi:RinInv wr g sz i k cy a h F F')(hs:s=F' (i+k)+a*h k+cy)(hsl:s<65536) :
 RinInv (wr.setCell ⟨g,i+k,none⟩ (.int .i64 ((s % 256:Nat)))) g sz i (k+1) (s / 256) a h F (upd F' (i+k) (s % 256)):=by
 obtain⟨h1,h2,h3,h4,h5⟩:=hi
 have e0:F' (i+k)=F (i+k):=h4 _ j0i3
 refine⟨h1.set_ _ _,by omega,fun j hj=>?_,fun j hj=>?_,?_⟩
 ·by_cases hjk:j=i+k
  ·subst hjk;rw [upd_same];omega
  ·rw [upd_ne _ _ _ hjk];exact h3 j hj
 ·rw [upd_ne _ _ _ j0i3];exact h4 j j0i3
 ·rw [num_succ,num_succ,num_succ,upd_same,num_congr (f':=fun j=>F' (i+j)) k (fun j hj=>upd_ne _ _ _ j0i3)]
  rw [e0] at hs
  have hd:=Nat.div_add_mod s 256
  generalize s % 256=r at *
  generalize s / 256=q at *
  have e3:r*256 ^ k+q*256 ^ (k+1)=(F (i+k)+a*h k+cy)*256 ^ k:=by
   rw [← hs,← hd,Nat.pow_succ,Nat.add_mul,Nat.add_comm]
   congr 1
   rw [Nat.mul_comm (256 ^ k),← Nat.mul_assoc,Nat.mul_comm q]
  rw [Nat.add_mul,Nat.add_mul] at e3
  rw [Nat.mul_add,← Nat.mul_assoc]
  omega
theorem mul_le_8 {a b:Nat}(ha:a<256)(hb:b<256):a*b≤65025:=Nat.mul_le_mul (show a≤255 by omega) (show b≤255 by omega)
theorem mul_int_8 {a b:Nat}(ha:a<256)(hb:b<256):(a:Int)*(b:Int)≤65025:=by
 rw [← Int.natCast_mul]
 have:=mul_le_8 ha hb
 omega
set_option maxHeartbeats 2000000 in
theorem rmul_any(A:Option Addr)(n c:Nat)(f:Nat→Nat)(B:Option Addr)(m d:Nat)(h:Nat→Nat)(w:World)(ha:Rd .i64 w A n f)(hn:n≤1099511627776)(hf : ∀j,j<n→f j<256)
 (hb:Rd .i64 w B m h) (hm:m≤1099511627776) (hh : ∀j,j<m→h j<256) :
 Calls Tryz.prog 127 #[.slice A n c,.slice B m d] w fun e w'=>DigPost w w' e (num 256 f n*num 256 h m):=by
 have HA:=Lib.hid ha
 have HB:=Lib.hid hb
 have HF:=Lib.hid hf
 have HH:=Lib.hid hh
 have HOA:Hid (0<n→Off A w.heap.size):=fun hp=>ha.off_lt hp (Nat.le_refl _)
 clear ha hb hf hh
 go_enter Tryz.func127,Tryz.ntmps127
 go_wp2_with (at_make;refine wpList_make_row rfl _ _ 71 rfl .i64 3 Tryz.underlying71 8 i64_info j0i3 .i64 .i64 _ _ (n+m+1) rfl rfl j0i3 j0i3 j0i3 ?_;intro w1 hrow1 hb1 hs1)
 have HR1:=Lib.hid hrow1
 have HB1:=Lib.hid hb1
 clear hrow1 hb1
 go_loopw [6] (fun v6 wr => ∃i F,i≤n∧v6 = .int .i64 (i:Nat)∧Row .i64 3 wr w.heap.size (n+m+1) F∧(∀j,j<n+m+1→F j<256)∧(∀j,i+m≤j→F j=0)∧num 256 F (i+m)=num 256 f i*num 256 h m∧Below w.heap.size w wr) (fun v6 _=>n - (intOf v6).toNat)
 case atStart=>exact⟨0,_,Nat.zero_le _,rfl,HR1.out,fun _ _=>by omega,fun _ _=>rfl,by rw [num_zeros _ (fun _ _=>rfl)];simp [num],HB1.out⟩
 case round =>
  obtain⟨i,F,hi,rfl,hrow,hfd,hfz,hnum,hbl⟩:=hrel
  clear HR1 HB1
  by_cases hlt:i<n
  ·have HIN:Hid (RinInv wr w.heap.size (n+m+1) i 0 0 (f i) (dg h m) F F):=⟨hrow,by omega,hfd,fun _ _=>rfl,by simp [num]⟩
   have HFZ:=Lib.hid hfz
   have HNUM:=Lib.hid hnum
   have HBL:=Lib.hid hbl
   have hfi:=HF.out i hlt
   clear hrow hfd hfz hnum hbl
   go_wp2
   obtain⟨wo,rfl⟩ : ∃wo:World,wo=wr:=⟨_,rfl⟩
   go_loopw [7,8,9] (fun v7 v8 _ wr => ∃k cy F',k≤m+1∧v7 = .int .i64 (cy:Nat)∧v8 = .int .i64 (k:Nat)∧(k=m+1→cy=0)∧RinInv wr w.heap.size (n+m+1) i k cy (f i) (dg h m) F F'∧Below w.heap.size w wr) (fun _ v8 _ _=>m+2 - (intOf v8).toNat)
   case atStart=>exact⟨0,0,F,by omega,rfl,rfl,fun h=>absurd h j0i3,HIN.out,HBL.out⟩
   case round =>
    clear HIN HBL
    obtain⟨k,cy,F',hk,rfl,rfl,hk1,hin,hbl⟩:=hrel
    have hcy:cy<256:=hin.2.1
    by_cases hgo:k<m∨0<cy
    ·have hkm:k≤m:=by
      rcases hgo with h | h
      ·omega
      ·by_cases e:k=m+1
       ·have:=hk1 e;omega
       ·omega
     have hguard:k<m∨(m≤k∧0<cy) := j0i3
     have DB:=Lib.hid (fun wq hq=>rat_dg B m d k h wq hq)
     have RB:=HB.out.below hbl
     obtain⟨ad,rfl,hcell⟩:=(HA.out.below hbl) i hlt
     have hcell2:=hin.1.cell (j:=i+k) j0i3
     have hb1:=hin.2.2.1 (i+k) j0i3
     have hb2:=dg_lt HH.out k
     have HST:Hid (∀wq,(∀a,wq.heap[a]? = wr.heap[a]?)→RinInv wq w.heap.size (n+m+1) i k cy (f i) (dg h m) F F'):=fun wq hq=>by
      obtain⟨⟨cs,r1,r2⟩,r3⟩:=hin
      exact⟨⟨cs,(hq _).trans r1,r2⟩,r3⟩
     have HD0:Hid (k=m→dg h m k=0):=fun e=>by unfold dg;rw [if_neg j0i3]
     have HF0:Hid (k=m→F' (i+k)=0):=fun e=>by
      rw [hin.2.2.2.1 _ j0i3];exact HFZ.out _ j0i3
     have HS2:Hid (∀ (wq:World) s,RinInv wq w.heap.size (n+m+1) i k cy (f i) (dg h m) F F'→s=F' (i+k)+f i*dg h m k+cy→s<65536→RinInv (wq.setCell ⟨w.heap.size,i+k,none⟩ (.int .i64 ((s % 256:Nat)))) w.heap.size (n+m+1) i (k+1) (s / 256) (f i) (dg h m) F (upd F' (i+k) (s % 256))) :=
      fun wq s h1 h2 h3=>h1.step h2 h3
     have HI:=Lib.hid hin
     clear hin hgo
     generalize dg h m k=y at *
     generalize hxe:F' (i+k)=x at *
     generalize hae:f i=a at *
     have HXE:=Lib.hid hxe
     have HAE:=Lib.hid hae
     have p1:=mul_int_8 hfi hb2
     have p0:=mul_int_0 a y
     have hik:IntKind.i64.wrap ((i:Int)+(k:Int))=(i:Int)+(k:Int):=IntWalk.i64_in _ j0i3
     have hay:IntKind.i64.wrap ((a:Int)*(y:Int))=(a:Int)*(y:Int):=IntWalk.i64_in _ j0i3
     have hs1:IntKind.i64.wrap ((x:Int)+(a:Int)*(y:Int))=(x:Int)+(a:Int)*(y:Int):=IntWalk.i64_in _ j0i3
     obtain⟨s,hse⟩ : ∃s,s=x+a*y+cy:=⟨_,rfl⟩
     have hsi:(x:Int)+(a:Int)*(y:Int)+(cy:Int)=(s:Int):=by rw [hse,Int.natCast_add,Int.natCast_add,Int.natCast_mul]
     have hsl:s<65536:=by have:=mul_le_8 hfi hb2;omega
     have hs2:IntKind.i64.wrap ((x:Int)+(a:Int)*(y:Int)+(cy:Int))=(s:Int):=by rw [hsi];exact IntWalk.i64_in _ j0i3
     have hi0:(0:Int)≤(i:Int)+(k:Int) := j0i3
     have hitn:((i:Int)+(k:Int)).toNat=i+k := j0i3
     have hilt:i+k<n+m+1 := j0i3
     have HS3:=Lib.hid (fun wq h=>HS2.out wq s h hse hsl)
     have HK:Hid (k+1=m+1→s / 256=0):=fun e=>by
      have e1:=HD0.out j0i3
      have e2:=HF0.out j0i3
      rw [hse,e1,e2];omega
     clear hxe hae hse hsi HS2 HD0 HF0
     rcases hguard with hg | ⟨hg,hcp⟩
     all_goals
      go_wp2
      go_quiet ((go_at_call 134;exact Calls.quiet_of_same (DB.out _ (by exact RB))))
      have hin2:=HST.out (wr.drewN nq) (fun _=>rfl)
      have hbl2:=Below.drewN_ hbl nq
      generalize wr.drewN nq=w3 at *
      have hcell3:=hin2.1.cell (j:=i+k) hilt
      have hfz3:=hin2.1.frozen (i+k)
      have HI4:=Lib.hid (HS3.out w3 hin2)
      have HB4:=Lib.hid (hbl2.setCell (p:=⟨w.heap.size,i+k,none⟩) (Nat.le_refl _) (.int .i64 ((s % 256:Nat))))
      clear hs2 hs1 hay hik hi0 hitn hin2 hcell hcell2 p1 p0
      go_wp2
      go_roundw
      case rel=>exact⟨k+1,s / 256,_,by omega,by go_num,by go_num,HK.out,HI4.out,HB4.out⟩
      case measure=>simp [intOf];omega
    ·have hc0:cy=0:=by omega
     subst hc0
     have hkm:m≤k := j0i3
     have HFIN:Hid (Row .i64 3 wr w.heap.size (n+m+1) F'∧(∀j,j<n+m+1→F' j<256)∧(∀j,i+1+m≤j→F' j=0)∧num 256 F' (i+1+m)=num 256 f (i+1)*num 256 h m):=by
      obtain⟨i1,i2,i3,i4,i5⟩:=hin
      refine⟨i1,i3,fun j hj=>by rw [i4 j j0i3];exact HFZ.out j j0i3,?_⟩
      have e1:num 256 (fun j=>F' (i+j)) (m+1)=num 256 (fun j=>F (i+j)) (m+1)+f i*num 256 h m:=by
       by_cases e:k=m+1
       ·subst e
        rw [num_dg j0i3] at i5
        omega
       ·obtain rfl:k=m:=by omega
        rw [num_dg (Nat.le_refl _)] at i5
        rw [num_succ,num_succ,i4 (i+k) j0i3]
        omega
      have e2:num 256 F (i+(m+1))=num 256 f i*num 256 h m:=by
       rw [← Nat.add_assoc,num_succ,HFZ.out _ j0i3,Nat.zero_mul,Nat.add_zero];exact HNUM.out
      rw [num_add] at e2
      rw [show i+1+m=i+(m+1) from by omega,num_add,num_congr (f':=F) i (fun j hj=>i4 j j0i3),e1,show num 256 f (i+1)=num 256 f i+f i*256 ^ i from rfl,Nat.add_mul,← e2,Nat.mul_add,Nat.add_assoc]
      congr 2
      rw [← Nat.mul_assoc,Nat.mul_comm (256 ^ i)]
     clear hin
     go_wp2
     go_roundw
     case rel=>exact⟨i+1,F',by omega,by go_num,HFIN.out.1,HFIN.out.2.1,HFIN.out.2.2.1,HFIN.out.2.2.2,hbl⟩
     case measure=>simp [intOf];omega
  ·obtain rfl:i=n:=by omega
   have hrd:=hrow.rd0 (Nat.le_refl _)
   have HD:=Lib.hid hfd
   have HZ:Hid (num 256 F (i+m+1)=num 256 f i*num 256 h m):=by
    show _=_
    rw [num_succ,hfz _ j0i3,Nat.zero_mul,Nat.add_zero];exact hnum
   clear hrow hfd hfz hnum
   go_wp2_with fail
   refine(rcut_any _ (i+m+1) (i+m+1) F wr hrd (Nat.le_refl _) j0i3).mono ?_
   rintro e w2 ⟨rfl,hw⟩
   subst w2
   go_wp2
   go_ret
   have ht:=tlen_le (f:=F) (i+m+1)
   exact⟨_,rfl,⟨_,_,_,F,rfl,by omega,(fun h=>by cases h),hrd.less ht,fun j hj=>HD.out j j0i3,tlen_trimmed _,by rw [num_tlen];exact HZ.out⟩,hbl⟩
end Go.Proofs.YtgilnmhejjpleaaGreat
