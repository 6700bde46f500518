/- Merged of Cg,Cl,Cm,Cw,Aw,Row,Sf. -/
import Derived.Test.YtgilnmhejjpleaaGreatPNatA
import Derived.Test.YtgilnmhejjpleaaGreatPNat0
import Derived.Test.YtgilnmhejjpleaaGreatPNatC
import Derived.Deep.RegionWith
import Derived.Laws.BitsAllLaws
namespace Go.Proofs.YtgilnmhejjpleaaGreat
open Go.RowKit
theorem jha1 {P:Prop}(h:P:=by rw [bne_iff_ne]; omega):P:=h
theorem jlfy {P:Prop}(h:P:=by have := tlen_le (f := f) n; omega):P:=h
theorem top_bit(x:Nat)(hx:x<4294967296):x.testBit 31=decide (2147483648≤x):=by
 rw [Nat.testBit_eq_decide_div_mod_eq]
 congr 1
 have:x / 2 ^ 31 % 2=1↔2147483648≤x:=by
  have e:(2:Nat) ^ 31=2147483648 := jpu1
  rw [e];omega
 exact propext this
theorem top_div(N:Nat)(hN:N<4294967296):N / 2147483648=if N.testBit 31 then 1 else 0:=by
 rw [top_bit N hN]
 by_cases h:2147483648≤N
 ·simp [h];omega
 ·simp [h];omega
def subD(x y c:Nat):Nat:=(x+4294967296+4294967296 - y - c) % 4294967296
def subC(x y c:Nat):Nat:=if x<y+c then 1 else 0
theorem subC_le(x y c:Nat):subC x y c≤1:=by unfold subC;split <;> omega
theorem subD_lt(x y c:Nat):subD x y c<4294967296:=Nat.mod_lt _ j0i3
theorem sub_eq(x y c:Nat)(hx:x<4294967296)(hy:y<4294967296)(hc:c≤1):subD x y c+y+c=x+4294967296*subC x y c:=by
 unfold subD subC;split <;> omega
theorem sub_bits(x y c:Nat)(hx:x<4294967296)(hy:y<4294967296)(hc:c≤1) :
 (((4294967295 ^^^ x) &&& y) ||| ((4294967295 ^^^ (x ^^^ y)) &&& subD x y c)) / 2147483648=subC x y c:=by
 have e:(4294967296:Nat)=2 ^ 32 := jpu1
 have hd:=subD_lt x y c
 have hq:=sub_eq x y c hx hy hc
 have hN:(((4294967295 ^^^ x) &&& y) ||| ((4294967295 ^^^ (x ^^^ y)) &&& subD x y c))<4294967296:=by
  rw [e] at *
  exact Nat.or_lt_two_pow (Nat.and_lt_two_pow _ hy) (Nat.and_lt_two_pow _ hd)
 rw [top_div _ hN,Nat.testBit_or,Nat.testBit_and,Nat.testBit_and,Nat.testBit_xor,Nat.testBit_xor,Nat.testBit_xor,top_bit x hx,top_bit y hy,top_bit _ hd]
 have hM:(4294967295:Nat).testBit 31=true := jpu1
 rw [hM]
 unfold subC at *
 generalize subD x y c=d at *
 by_cases h1:2147483648≤x <;> by_cases h2:2147483648≤y <;> by_cases h3:2147483648≤d <;> by_cases h4:x<y+c <;> simp [h1,h2,h3,h4] <;> simp [h4] at hq <;> omega
theorem sub_bits_int(x y c:Nat)(hx:x<4294967296)(hy:y<4294967296)(hc:c≤1) :
 (bits BinOp.or IntKind.u32 (bits BinOp.and IntKind.u32 (bits BinOp.xor IntKind.u32 IntKind.u32.max ↑x) ↑y)
  (bits BinOp.and IntKind.u32 (bits BinOp.xor IntKind.u32 IntKind.u32.max (bits BinOp.xor IntKind.u32 ↑x ↑y)) (((x:Int) - y - c) % 4294967296)) / 2147483648)=(subC x y c:Nat):=by
 have hm:IntKind.u32.max=((4294967295:Nat):Int) := jpu1
 have e:(4294967296:Nat)=2 ^ 32 := jpu1
 have hd:((x:Int) - y - c) % 4294967296=(subD x y c:Nat):=by unfold subD;omega
 have h1:(4294967295 ^^^ x)<4294967296:=by rw [e] at *;exact Nat.xor_lt_two_pow jpu1 hx
 have h2:(x ^^^ y)<4294967296:=by rw [e] at *;exact Nat.xor_lt_two_pow hx hy
 have h3:(4294967295 ^^^ (x ^^^ y))<4294967296:=by rw [e] at *;exact Nat.xor_lt_two_pow jpu1 h2
 have h4:((4294967295 ^^^ x) &&& y)<4294967296:=by rw [e] at *;exact Nat.and_lt_two_pow _ hy
 have h5:((4294967295 ^^^ (x ^^^ y)) &&& subD x y c)<4294967296:=by have:=subD_lt x y c;rw [e] at *;exact Nat.and_lt_two_pow _ this
 rw [hd,hm,u32_xor_nat _ _ j0i3 hx,u32_and_nat _ _ h1 hy,u32_xor_nat _ _ hx hy,u32_xor_nat _ _ j0i3 h2,u32_and_nat _ _ h3 (subD_lt x y c),u32_or_nat _ _ h4 h5]
 rw [← sub_bits x y c hx hy hc]
 rfl
def Sub32Post(w w':World)(e:Ending)(x y c:Nat):Prop:=e = .returned (.tuple #[.int .u32 (subD x y c:Nat),.int .u32 (subC x y c:Nat)])∧w'=w
set_option maxHeartbeats 400000 in
theorem sub32_any(x y c:Nat)(hx:x<4294967296)(hy:y<4294967296)(hc:c≤1)(w:World) :
 Calls Tryz.prog 129 #[.int .u32 x,.int .u32 y,.int .u32 c] w fun e w'=>Sub32Post w w' e x y c:=by
 have hs:IntKind.u32.signed=false:=rfl
 have hd:((x:Int) - y - c) % 4294967296=(subD x y c:Nat):=by unfold subD;omega
 have hb:=sub_bits_int x y c hx hy hc
 have HD:=Lib.hid hd
 have HB:=Lib.hid hb
 clear hd hb
 go_enter Tryz.func129,Tryz.ntmps129
 go_wp2
 go_ret2
 refine⟨?_,rfl⟩
 have e1:=HD.out
 have e2:=HB.out
 show Ending.returned (.tuple #[.int .u32 _,.int .u32 _])=_
 have e3:(((x:Int) - y) % 4294967296 - c) % 4294967296=(subD x y c:Nat):=by rw [← e1];omega
 rw [e2,e3]
def SubInv(w wr:World)(g sz k cr:Nat)(f h f':Nat→Nat):Prop :=
 cr≤1∧Row .u32 117 wr g sz f'∧Wr g w wr∧(∀j,k≤j→f' j=f j)∧(∀j,j<k→f' j<4294967296)∧
  num 4294967296 f' k+num 4294967296 h k=num 4294967296 f k+cr*4294967296 ^ k
theorem SubInv.step {w wr:World} {g sz k cr:Nat} {f h f':Nat→Nat}(hi:SubInv w wr g sz k cr f h f')(hf:f k<4294967296)(hh:h k<4294967296)(x:Int)(hx:x=(subD (f' k) (h k) cr:Nat)) :
 SubInv w (wr.setCell ⟨g,k,none⟩ (.int .u32 x)) g sz (k+1) (subC (f' k) (h k) cr) f h (upd f' k (subD (f' k) (h k) cr)):=by
 subst hx
 obtain⟨h1,h2,h3,h4,h5,h6⟩:=hi
 have e0:f' k=f k:=h4 _ j0i3
 refine⟨subC_le _ _ _,h2.set_ _ _,h3.setCell _ _,fun j hj=>?_,fun j hj=>?_,?_⟩
 ·rw [upd_ne _ _ _ j0i3];exact h4 j j0i3
 ·by_cases hjk:j=k
  ·subst hjk;rw [upd_same];exact subD_lt _ _ _
  ·rw [upd_ne _ _ _ j0i3];exact h5 j j0i3
 ·rw [num_succ,num_succ,num_succ,upd_same,num_upd _ _ (Nat.le_refl _),e0]
  have hq:=sub_eq (f k) (h k) cr hf hh h1
  generalize subD (f k) (h k) cr=r at *
  generalize subC (f k) (h k) cr=q at *
  rw [Nat.pow_succ]
  generalize 4294967296 ^ k=T at *
  have e1:q*(T*4294967296)=(4294967296*q)*T := jr6o
  rw [e1]
  have e3:(r+h k+cr)*T=(f k+4294967296*q)*T:=by rw [hq]
  rw [Nat.add_mul,Nat.add_mul,Nat.add_mul] at e3
  omega
theorem SubInv.drew {w wr:World} {g sz k cr:Nat} {f h f':Nat→Nat}(hi:SubInv w wr g sz k cr f h f'):SubInv w wr.drew g sz k cr f h f':=by
 obtain⟨h1,h2,h3,h4⟩:=hi
 exact⟨h1,h2.drew,h3.drew,h4⟩
theorem SubInv.ext {w wr:World} {g sz k n:Nat} {f h f':Nat→Nat}(hi:SubInv w wr g sz k 0 f h f')(hk:k≤n)(hf : ∀j,j<n→f j<4294967296)(hh : ∀j,k≤j→j<n→h j=0) :
 SubInv w wr g sz n 0 f h f':=by
 induction n with
 |zero=>obtain rfl:k=0:=by omega
        exact hi
 |succ n ih =>
  by_cases hkn:k=n+1
  ·subst hkn;exact hi
  ·obtain⟨h1,h2,h3,h4,h5,h6⟩:=ih j0i3 (fun j hj=>hf j j0i3) (fun j a b=>hh j a j0i3)
   have e0:f' n=f n:=h4 _ j0i3
   refine⟨h1,h2,h3,fun j hj=>h4 j j0i3,fun j hj=>?_,?_⟩
   ·by_cases hjn:j=n
    ·subst hjn;rw [e0];exact hf j j0i3
    ·exact h5 j j0i3
   ·rw [num_succ,num_succ,num_succ,hh n j0i3 j0i3,e0]
    omega
theorem SubInv.congr {w wr:World} {g sz k cr:Nat} {f h h' f':Nat→Nat}(hi:SubInv w wr g sz k cr f h f')(he : ∀j,j<k→h j=h' j):SubInv w wr g sz k cr f h' f':=by
 obtain⟨h1,h2,h3,h4,h5,h6⟩:=hi
 exact⟨h1,h2,h3,h4,h5,by rw [← num_congr k he];exact h6⟩
theorem SubInv.lt {w wr:World} {g sz n cr m:Nat} {f h f':Nat→Nat}(hi:SubInv w wr g sz n cr f (fun j=>if j<m then h j else 0) f')(hm:m≤n)(hle:num 4294967296 h m≤num 4294967296 f n):cr=0:=by
 obtain⟨h1,h2,h3,h4,h5,h6⟩:=hi
 rw [num_pad n hm] at h6
 have h7:=num_lt (B:=4294967296) (f:=f') j0i3 n h5
 rcases Nat.eq_zero_or_pos cr with h | h
 ·exact h
 ·obtain rfl:cr=1:=by omega
  omega
def SubPost(w w':World)(e:Ending)(x y:Nat):Prop :=
 ∃v,e = .returned (.tuple #[v,.bool (decide (y≤x))])∧IsNat w' v (x - y)∧Below w.heap.size w w'
set_option maxHeartbeats 1000000 in
theorem sub_less(A:Option Addr)(n c:Nat)(f:Nat→Nat)(B:Option Addr)(m d:Nat)(h:Nat→Nat)(w:World)(ha:Rd .u32 w A n f)(hc:n≤c)(hn:n≤17592186044416)(hf : ∀j,j<n→f j<4294967296)
 (hb:Rd .u32 w B m h) (hd:m≤d) (hm:m≤17592186044416) (hh : ∀j,j<m→h j<4294967296) (hlt:num 4294967296 f n<num 4294967296 h m) :
 Calls Tryz.prog 110 #[.slice A n c,.slice B m d] w fun e w'=>SubPost w w' e (num 4294967296 f n) (num 4294967296 h m):=by
 have C:=cmp_any A n c f B m d h w ha hc hn hf hb hd hm hh
 generalize num 4294967296 f n=x at *
 generalize num 4294967296 h m=y at *
 have hcm:cmpN x y = -1:=by unfold cmpN;rw [if_pos hlt]
 have C':Calls Tryz.prog 117 #[.slice A n c,.slice B m d] w fun e w'=>e = .returned (.int .i64 (-1))∧Below w.heap.size w w':=by
  unfold CmpPost at C;rw [hcm] at C;exact C
 have D:=Lib.hid C'
 have HL:=Lib.hid hlt
 clear C C' hcm hlt hf hh ha hb
 go_enter Tryz.func110,Tryz.ntmps110
 go_wp2_with fail
 refine D.out.mono ?_
 rintro e w1 ⟨rfl,hbl⟩
 go_wp2
 go_ret2
 have:=HL.out
 refine⟨.slice none 0 0,?_,⟨none,0,0,fun _=>0,rfl,Nat.le_refl _,Rd.zero,fun j hj=>absurd hj j0i3,.inl rfl,by rw [Nat.sub_eq_zero_of_le j0i3];rfl⟩,hbl⟩
 rw [decide_eq_false j0i3]
 rfl
set_option maxHeartbeats 2000000 in
theorem sub_more(A:Option Addr)(n c:Nat)(f:Nat→Nat)(B:Option Addr)(m d:Nat)(h:Nat→Nat)(w:World)(ha:Rd .u32 w A n f)(hc:n≤c)(hn:n≤17592186044416)(hf : ∀j,j<n→f j<4294967296)
 (hb:Rd .u32 w B m h) (hd:m≤d) (hm:m≤17592186044416) (hh : ∀j,j<m→h j<4294967296) (hle:num 4294967296 h m≤num 4294967296 f n) (r:Int) (hr:r=cmpN (num 4294967296 f n) (num 4294967296 h m)) (hr0:0≤r) :
 Calls Tryz.prog 110 #[.slice A n c,.slice B m d] w fun e w'=>SubPost w w' e (num 4294967296 f n) (num 4294967296 h m):=by
 have C:=cmp_any A n c f B m d h w ha hc hn hf hb hd hm hh
 have C':Calls Tryz.prog 117 #[.slice A n c,.slice B m d] w fun e w'=>e = .returned (.int .i64 r)∧Below w.heap.size w w':=by
  subst hr;exact C
 have D:=Lib.hid C'
 have HE:=Lib.hid (decide_eq_true hle)
 have ht:=tlen_le (f:=f) n
 have hu:=tlen_le (f:=h) m
 have hml:tlen h m≤tlen f n:=by
  rcases Nat.lt_or_ge (tlen f n) (tlen h m) with hlt | hge
  ·have:=num_len_lt (B:=4294967296) j0i3 (tlen_lt_dig hf) (tlen_trimmed (f:=h) m) hlt
   rw [num_tlen,num_tlen] at this
   omega
  ·exact hge
 have hle':num 4294967296 h (tlen h m)≤num 4294967296 f (tlen f n):=by rw [num_tlen,num_tlen];exact hle
 have HL:=Lib.hid hle'
 have HF:=Lib.hid (tlen_lt_dig hf)
 have HH:=Lib.hid (tlen_lt_dig hh)
 rw [← num_tlen (f:=f) n,← num_tlen (f:=h) m]
 have hg1:decide (r<0)=false:=decide_eq_false j0i3
 clear C C' hf hh hle hle'
 go_enter Tryz.func110,Tryz.ntmps110
 go_wp2_with fail
 refine D.out.mono ?_
 rintro e w1 ⟨rfl,hbl⟩
 have ha1:=ha.below hbl
 have hb1:=hb.below hbl
 go_wp2_with fail
 refine(trim_any A n c f w1 ha1 hc hn).mono ?_
 rintro e w2 ⟨rfl,f2,hrow2,hf2,hbl2,hs2⟩
 have hb2:=hb1.below hbl2
 go_wp2_with fail
 refine(cut_any B m d h w2 hb2 hd j0i3).mono ?_
 rintro e w' ⟨rfl,rfl⟩
 have hb3:=hb2.less hu
 have HB3:=Lib.hid hb3
 have HF2:=Lib.hid hf2
 have HOff:Hid (0<tlen h m→Off B w1.heap.size):=fun hp=>hb1.off_lt j0i3 (Nat.le_refl _)
 clear ha hb ha1 hb1 hb2 hb3 hf2 D hr
 go_wp2
 have hq2 : ∀j,j<tlen f n→f2 j<4294967296:=fun j hj=>by rw [HF2.out j hj];exact HF.out j hj
 have HQ2:=Lib.hid hq2
 have hle2:num 4294967296 h (tlen h m)≤num 4294967296 f2 (tlen f n):=by
  rw [num_congr (f:=f2) (f':=f) _ HF2.out];exact HL.out
 have HL2:=Lib.hid hle2
 clear hq2 hle2
 go_loopw [7,20] (fun v7 v20 wr => ∃k cr f',k≤tlen h m∧v7 = .int .u32 (cr:Nat)∧v20 = .int .i64 (k:Nat)∧SubInv w2 wr w1.heap.size (tlen f n) k cr f2 h f') (fun _ v20 _=>tlen h m - (intOf v20).toNat)
 case atStart=>exact⟨0,0,f2,Nat.zero_le _,rfl,rfl,by omega,hrow2,Wr.refl,fun _ _=>rfl,fun _ hj=>absurd hj j0i3,by simp [num]⟩
 case round =>
  obtain⟨k,cr,f',hk,rfl,rfl,hinv⟩:=hrel
  have hcr:cr≤1:=hinv.1
  clear hrow2
  by_cases hlt:k<tlen h m
  ·obtain⟨ad,rfl,hcell⟩:=(HB3.out.wr (HOff.out j0i3) hinv.2.2.1) k hlt
   have hcell2:=hinv.2.1.cell (j:=k) j0i3
   have hfz:=hinv.2.1.frozen k
   have b0:f2 k<4294967296:=HQ2.out k j0i3
   have b1:f' k<4294967296:=by rw [hinv.2.2.2.1 k (Nat.le_refl _)];exact b0
   have b2:h k<4294967296:=HH.out k hlt
   go_wp2
   go_region_with (go_at_call 129;refine(sub32_any _ _ _ b1 b2 hcr _).mono ?_;rintro e w' ⟨rfl,rfl⟩)
   all_goals
    go_wp2
    go_roundw
    case rel=>exact⟨k+1,_,_,by omega,rfl,by go_num,(hinv.step b0 b2 _ rfl).drew⟩
    case measure=>simp [intOf];omega
  ·obtain rfl:k=tlen h m:=by omega
   have hinv2:SubInv w2 wr w1.heap.size (tlen f n) (tlen h m) cr f2 (fun j=>if j<tlen h m then h j else 0) f':=hinv.congr fun j hj=>(if_pos hj).symm
   have HI:=Lib.hid hinv2
   clear hinv hinv2 hlt
   go_wp2
   go_loopw [7,9] (fun v7 v9 wr => ∃i cr f',tlen h m≤i∧i≤tlen f n∧v7 = .int .u32 (cr:Nat)∧v9 = .int .i64 (i:Nat)∧SubInv w2 wr w1.heap.size (tlen f n) i cr f2 (fun j=>if j<tlen h m then h j else 0) f') (fun _ v9 _=>tlen f n - (intOf v9).toNat)
   case atStart=>exact⟨tlen h m,cr,f',Nat.le_refl _,hml,rfl,rfl,HI.out⟩
   case round =>
    clear HI hcr
    obtain⟨i,cr,f',hki,hin,rfl,rfl,hinv⟩:=hrel
    by_cases hc0:cr=0
    ·subst hc0
     obtain⟨_,q2,q3,_,q5,q6⟩:=hinv.ext hin HQ2.out (fun j a _=>if_neg j0i3)
     rw [num_pad _ hml,num_congr (f:=f2) (f':=f) _ HF2.out] at q6
     have q7:IsNat wr (.slice (some ⟨w1.heap.size,0,none⟩) (tlen f' (tlen f n)) (tlen f n)) (num 4294967296 f (tlen f n) - num 4294967296 h (tlen h m)) :=
      isNat_row q2 (Nat.le_refl _) (Nat.le_refl _) q5 j0i3
     have q8:Below w.heap.size w wr:=q3.below ((hbl.trans (hbl2.mono hbl.size))) (by have:=hbl.size;omega) hbl.size
     have q9:=q2.rd0 (n:=tlen f n) (Nat.le_refl _)
     have Q6:=Lib.hid q6
     have Q5:=Lib.hid q5
     clear q6 q5 hinv q2
     go_wp2_with fail
     refine(cut_any _ (tlen f n) (tlen f n) _ _ q9 (Nat.le_refl _) j0i3).mono ?_
     rintro e w' ⟨rfl,rfl⟩
     go_wp2
     go_ret2
     refine⟨_,?_,q7,q8⟩
     rw [num_tlen,num_tlen,HE.out]
     rfl
    ·have hin':i<tlen f n:=by
      rcases Nat.lt_or_ge i (tlen f n) with h1 | h1
      ·exact h1
      ·obtain rfl:i=tlen f n:=by omega
       exact absurd (hinv.lt hml HL2.out) hc0
     have hg:((cr:Int) != 0)=true := jha1
     have hcr:cr≤1:=hinv.1
     have hcell2:=hinv.2.1.cell (j:=i) j0i3
     have hfz:=hinv.2.1.frozen i
     have b0:f2 i<4294967296:=HQ2.out i j0i3
     have b1:f' i<4294967296:=by rw [hinv.2.2.2.1 i (Nat.le_refl _)];exact b0
     have hst:=hinv.step b0 (by rw [if_neg j0i3];omega) _ rfl
     rw [if_neg (show ¬i<tlen h m by omega)] at hst
     have HS:=Lib.hid hst
     clear hst hinv hc0
     go_wp2_with (go_at_call 129;refine(sub32_any _ 0 _ b1 j0i3 hcr _).mono ?_;rintro e w' ⟨rfl,rfl⟩)
     go_roundw
     case rel=>exact⟨i+1,_,_,by omega,by omega,rfl,by go_num,HS.out⟩
     case measure=>simp [intOf];omega
theorem sub_any(A:Option Addr)(n c:Nat)(f:Nat→Nat)(B:Option Addr)(m d:Nat)(h:Nat→Nat)(w:World)(ha:Rd .u32 w A n f)(hc:n≤c)(hn:n≤17592186044416)(hf : ∀j,j<n→f j<4294967296)
 (hb:Rd .u32 w B m h) (hd:m≤d) (hm:m≤17592186044416) (hh : ∀j,j<m→h j<4294967296) :
 Calls Tryz.prog 110 #[.slice A n c,.slice B m d] w fun e w'=>SubPost w w' e (num 4294967296 f n) (num 4294967296 h m):=by
 by_cases hlt:num 4294967296 f n<num 4294967296 h m
 ·exact sub_less A n c f B m d h w ha hc hn hf hb hd hm hh hlt
 ·exact sub_more A n c f B m d h w ha hc hn hf hb hd hm hh j0i3 _ rfl (by unfold cmpN;rw [if_neg hlt];split <;> omega)
end Go.Proofs.YtgilnmhejjpleaaGreat
namespace Go.Proofs.YtgilnmhejjpleaaGreat
open Go.RowKit
def DivPost(w w':World)(e:Ending)(x y:Nat):Prop :=
 ∃vq vr,e = .returned (.tuple #[vq,vr,.bool (decide (0<y))])∧IsNat w' vq (x / y)∧IsNat w' vr (if y=0 then 0 else x % y)∧Below w.heap.size w w'
theorem below_trans {w w1 w2:World}(h:Below w.heap.size w w1)(h':Below w1.heap.size w1 w2):Below w.heap.size w w2:=h.trans (h'.mono h.size)
set_option maxHeartbeats 1000000 in
theorem div_zero(A:Option Addr)(n c:Nat)(f:Nat→Nat)(B:Option Addr)(m d:Nat)(h:Nat→Nat)(w:World)(ha:Rd .u32 w A n f)(hc:n≤c)(hn:n≤8796093022208)
 (hb:Rd .u32 w B m h) (hd:m≤d) (hm:m≤8796093022208) (h0:tlen h m=0) :
 Calls Tryz.prog 139 #[.slice A n c,.slice B m d] w fun e w'=>DivPost w w' e (num 4294967296 f n) (num 4294967296 h m):=by
 have hN:num 4294967296 h m=0:=(tlen_zero_iff j0i3).1 h0
 rw [hN]
 have C1:=fun w' hr'=>cut_any A n c f w' hr' hc j0i3
 have C2:=fun w' hr'=>cut_any B m d h w' hr' hd j0i3
 rw [h0] at C2
 have D1:=Lib.hid C1
 have D2:=Lib.hid C2
 clear C1 C2 hN h0
 have hg1:(((0:Nat):Int) == 0)=true := jpu1
 go_enter Tryz.func139,Tryz.ntmps139
 go_wp2_with fail
 refine(D1.out _ ha).mono ?_
 rintro e w' ⟨rfl,rfl⟩
 go_wp2_with fail
 refine(D2.out _ hb).mono ?_
 rintro e w' ⟨rfl,rfl⟩
 go_wp2
 go_ret3
 exact⟨_,_,rfl,by rw [Nat.div_zero];exact isNat_nil _,isNat_nil _,Below.refl _ _⟩
set_option maxHeartbeats 1000000 in
theorem div_less(A:Option Addr)(n c:Nat)(f:Nat→Nat)(B:Option Addr)(m d:Nat)(h:Nat→Nat)(w:World)(ha:Rd .u32 w A n f)(hc:n≤c)(hn:n≤8796093022208)(hf : ∀j,j<n→f j<4294967296)
 (hb:Rd .u32 w B m h) (hd:m≤d) (hm:m≤8796093022208) (hlt:tlen f n<tlen h m) :
 Calls Tryz.prog 139 #[.slice A n c,.slice B m d] w fun e w'=>DivPost w w' e (num 4294967296 f n) (num 4294967296 h m):=by
 have hN:num 4294967296 f n<num 4294967296 h m:=by
  have:=num_len_lt (B:=4294967296) j0i3 (tlen_lt_dig hf) (tlen_trimmed (f:=h) m) hlt
  rwa [num_tlen,num_tlen] at this
 have HE:Hid (decide (0<num 4294967296 h m)=true):=decide_eq_true j0i3
 have HN:=Lib.hid hN
 have C1:=fun w' hr'=>cut_any A n c f w' hr' hc j0i3
 have C2:=fun w' hr'=>cut_any B m d h w' hr' hd j0i3
 have T:=fun hr'=>trim_any A (tlen f n) c f w hr' jlfy jlfy
 have D1:=Lib.hid C1
 have D2:=Lib.hid C2
 have DT:=Lib.hid T
 have ha':=ha.less (tlen_le (f:=f) n)
 have hg:(tlen f n:Int)<(tlen h m:Int) := j0i3
 have hg1:((tlen h m:Int) == 0)=false := jyif
 have HF:=Lib.hid hf
 have ht:tlen f (tlen f n)=tlen f n:=tlen_eq (Nat.le_refl _) (fun j a b=>by omega) (tlen_trimmed n)
 have HT:=Lib.hid ht
 clear C1 C2 T hN hf ht
 go_enter Tryz.func139,Tryz.ntmps139
 go_wp2_with fail
 refine(D1.out _ ha).mono ?_
 rintro e w' ⟨rfl,rfl⟩
 go_wp2_with fail
 refine(D2.out _ hb).mono ?_
 rintro e w' ⟨rfl,rfl⟩
 go_wp2_with fail
 refine(DT.out ha').mono ?_
 rintro e w1 ⟨rfl,f2,hrow,hf2,hbl,hs⟩
 have HF2:=Lib.hid hf2
 clear hf2
 go_wp2
 go_ret3
 have hN:=HN.out
 refine⟨.slice none 0 0,.slice (some ⟨w.heap.size,0,none⟩) (tlen f (tlen f n)) (tlen f (tlen f n)),by rw [HE.out];rfl,?_,?_,hbl⟩
 ·rw [Nat.div_eq_of_lt hN];exact isNat_nil _
 ·rw [if_neg j0i3,Nat.mod_eq_of_lt hN]
  have h2:=HF2.out
  rw [HT.out] at h2 hrow ⊢
  refine⟨_,_,_,f2,rfl,Nat.le_refl _,hrow.rd0 (Nat.le_refl _),fun j hj=>by rw [h2 j hj];exact HF.out j jlfy,?_,?_⟩
  ·rcases tlen_trimmed (f:=f) n with h0 | h0
   ·exact .inl h0
   ·by_cases hz:tlen f n=0
    ·exact .inl hz
    ·exact .inr (by rw [h2 _ j0i3];exact h0)
  ·rw [num_congr _ h2,num_tlen]
theorem num_lt_two {f:Nat→Nat} {n:Nat}(hn:n≤2)(hf : ∀j,j<n→f j<4294967296):(num 4294967296 f n:Int)≤18446744073709551615:=by
 rw [num_two hn]
 have h0:=limbOf_lt hf 0
 have h1:=limbOf_lt hf 1
 omega
set_option maxHeartbeats 1000000 in
theorem div_two(A:Option Addr)(n c:Nat)(f:Nat→Nat)(B:Option Addr)(m d:Nat)(h:Nat→Nat)(w:World)(ha:Rd .u32 w A n f)(hc:n≤c)(hn:n≤8796093022208)(hf : ∀j,j<n→f j<4294967296)
 (hb:Rd .u32 w B m h) (hd:m≤d) (hm:m≤8796093022208) (hh : ∀j,j<m→h j<4294967296) (h0:0<tlen h m) (hge:tlen h m≤tlen f n) (h2:tlen f n≤2) :
 Calls Tryz.prog 139 #[.slice A n c,.slice B m d] w fun e w'=>DivPost w w' e (num 4294967296 f n) (num 4294967296 h m):=by
 have C1:=fun w' hr'=>cut_any A n c f w' hr' hc j0i3
 have C2:=fun w' hr'=>cut_any B m d h w' hr' hd j0i3
 have W1:=fun w' hr'=>word_any A (tlen f n) c f w' hr' (tlen_lt_dig hf) h2
 have W2:=fun w' hr'=>word_any B (tlen h m) d h w' hr' (tlen_lt_dig hh) j0i3
 rw [num_tlen] at W1 W2
 have hx:=num_lt_two h2 (tlen_lt_dig hf)
 have hy0:=(tlen_trimmed (f:=h) m).pos (B:=4294967296) j0i3 h0
 have hy:=num_lt_two (f:=h) (n:=tlen h m) j0i3 (tlen_lt_dig hh)
 rw [num_tlen] at hx hy hy0
 have ha':=ha.less (tlen_le (f:=f) n)
 have hb':=hb.less (tlen_le (f:=h) m)
 clear hf hh
 generalize num 4294967296 f n=x at *
 generalize num 4294967296 h m=y at *
 have hq:x / y≤x:=Nat.div_le_self _ _
 have hr:x % y<y:=Nat.mod_lt _ hy0
 have O1:=fun w'=>ofWord_any (x / y) w' j0i3
 have O2:=fun w'=>ofWord_any (x % y) w' j0i3
 have HE:Hid (decide (0<y)=true):=decide_eq_true j0i3
 have g1:(x:Int) / (y:Int)=((x / y:Nat):Int):=rfl
 have g2:(x:Int) % (y:Int)=((x % y:Nat):Int):=rfl
 have HQ:Hid (∃q r,x / y=q∧x % y=r):=⟨_,_,rfl,rfl⟩
 obtain⟨q,hq'⟩ : ∃q,q=x / y:=⟨_,rfl⟩
 obtain⟨r,hr'⟩ : ∃r,r=x % y:=⟨_,rfl⟩
 rw [← hq'] at O1 g1 hq
 rw [← hr'] at O2 g2 hr
 have HQ':=Lib.hid hq'
 have HR':=Lib.hid hr'
 have D1:=Lib.hid C1
 have D2:=Lib.hid C2
 have DW1:=Lib.hid W1
 have DW2:=Lib.hid W2
 have DO1:=Lib.hid O1
 have DO2:=Lib.hid O2
 have hg1:((tlen h m:Int) == 0)=false := jyif
 clear C1 C2 W1 W2 O1 O2 hq' hr' HQ
 generalize tlen f n=p at *
 generalize tlen h m=s at *
 go_enter Tryz.func139,Tryz.ntmps139
 go_wp2_with fail
 refine(D1.out _ ha).mono ?_
 rintro e w' ⟨rfl,rfl⟩
 go_wp2_with fail
 refine(D2.out _ hb).mono ?_
 rintro e w' ⟨rfl,rfl⟩
 go_wp2_with fail
 refine(DW1.out _ ha').mono ?_
 rintro e w' ⟨rfl,rfl⟩
 go_wp2_with fail
 refine(DW2.out _ hb').mono ?_
 rintro e w' ⟨rfl,rfl⟩
 go_wp2_with fail
 refine(DO1.out _).mono ?_
 rintro e w1 ⟨v1,rfl,hv1,hb1⟩
 have ha1:=ha'.below hb1
 have hb1':=hb'.below hb1
 go_wp2_with fail
 refine(DW1.out _ ha1).mono ?_
 rintro e w' ⟨rfl,rfl⟩
 go_wp2_with fail
 refine(DW2.out _ hb1').mono ?_
 rintro e w' ⟨rfl,rfl⟩
 go_wp2_with fail
 refine(DO2.out _).mono ?_
 rintro e w2 ⟨v2,rfl,hv2,hb2⟩
 go_wp2
 go_ret3
 exact⟨v1,v2,by rw [HE.out];rfl,by rw [← HQ'.out];exact hv1.below hb2,by rw [if_neg j0i3,← HR'.out];exact hv2,below_trans hb1 hb2⟩
theorem div_mod_of {x d q r:Nat}(h:q*d+r=x)(hr:r<d):x / d=q∧x % d=r:=by
 have hd:0<d := j0i3
 constructor
 ·rw [← h,Nat.add_comm,Nat.add_mul_div_right _ _ hd,Nat.div_eq_of_lt hr,Nat.zero_add]
 ·rw [← h,Nat.add_comm,Nat.add_mul_mod_self_right,Nat.mod_eq_of_lt hr]
set_option maxHeartbeats 1000000 in
theorem div_one(A:Option Addr)(n c:Nat)(f:Nat→Nat)(B:Option Addr)(m d:Nat)(h:Nat→Nat)(w:World)(ha:Rd .u32 w A n f)(hc:n≤c)(hn:n≤8796093022208)(hf : ∀j,j<n→f j<4294967296)
 (hb:Rd .u32 w B m h) (hd:m≤d) (hm:m≤8796093022208) (hh : ∀j,j<m→h j<4294967296) (h1:tlen h m=1) (h2:2<tlen f n) :
 Calls Tryz.prog 139 #[.slice A n c,.slice B m d] w fun e w'=>DivPost w w' e (num 4294967296 f n) (num 4294967296 h m):=by
 have C1:=fun w' hr'=>cut_any A n c f w' hr' hc j0i3
 have C2:=fun w' hr'=>cut_any B m d h w' hr' hd j0i3
 rw [h1] at C2
 have hpn:=tlen_le (f:=f) n
 have hsm:=tlen_le (f:=h) m
 have T:=fun hr'=>trim_any A (tlen f n) c f w hr' j0i3 j0i3
 have ht:tlen f (tlen f n)=tlen f n:=tlen_eq (Nat.le_refl _) (fun j a b=>by omega) (tlen_trimmed n)
 unfold TrimPost at T
 rw [ht] at T
 have hy0:=(tlen_trimmed (f:=h) m).pos (B:=4294967296) j0i3 j0i3
 have hy1:num 4294967296 h m=h 0:=by
  rw [← num_tlen,h1];simp [num]
 rw [num_tlen] at hy0
 rw [hy1] at hy0 ⊢
 have hy:=hh 0 j0i3
 obtain⟨bd,rfl,hcell⟩:=hb 0 j0i3
 have hcell0:w.cell? bd=some (.int .u32 (h 0:Nat)):=by simpa [Addr.add] using hcell
 have ha':=ha.less hpn
 have HF:=Lib.hid (tlen_lt_dig hf)
 have HE:Hid (decide (0<h 0)=true):=decide_eq_true j0i3
 have HN:=Lib.hid (num_tlen (B:=4294967296) (f:=f) n)
 have D1:=Lib.hid C1
 have D2:=Lib.hid C2
 have DT:=Lib.hid T
 clear C1 C2 T ht hf hh hy1 h1 hcell
 generalize tlen f n=p at *
 generalize h 0=y at *
 go_enter Tryz.func139,Tryz.ntmps139
 go_wp2_with fail
 refine(D1.out _ ha).mono ?_
 rintro e w' ⟨rfl,rfl⟩
 go_wp2_with fail
 refine(D2.out _ hb).mono ?_
 rintro e w' ⟨rfl,rfl⟩
 go_wp2_with fail
 refine(DT.out ha').mono ?_
 rintro e w1 ⟨rfl,f2,hrow,hf2,hbl,hs⟩
 have hc1:w1.cell? bd=some (.int .u32 (y:Nat)):=(hbl.cell (p:=bd) (block_lt_of_cell hcell0)).trans hcell0
 have HF2:=Lib.hid hf2
 have DS:=Lib.hid (divShort_any w.heap.size 0 p p p y f2 w1 hrow j0i3 hy0 hy (fun j hj=>by rw [Nat.zero_add,HF2.out j hj];exact HF.out j hj) j0i3)
 clear hf2 hcell0 D1 D2 DT ha ha' hb
 go_wp2_with fail
 refine DS.out.mono ?_
 rintro e w2 ⟨rest,f3,rfl,hinv⟩
 obtain⟨i1,i2,i3,i4,i5,i6⟩:=hinv
 simp only [Nat.sub_self,Nat.add_zero,Nat.zero_add,Nat.zero_le,true_and,forall_const] at i4 i5 i6
 rw [num_congr (f:=f2) (f':=f) p HF2.out,HN.out] at i6
 obtain⟨e1,e2⟩:=div_mod_of i6 i1
 have q1:IsNat w2 (.slice (some ⟨w.heap.size,0,none⟩) (tlen f3 p) p) (num 4294967296 f n / y):=isNat_row i2 (Nat.le_refl _) (Nat.le_refl _) i5 e1.symm
 have hb2:Below w.heap.size w w2:=i3.below hbl hbl.size (Nat.le_refl _)
 have q3:=i2.rd0 (Nat.le_refl p)
 have E2:=Lib.hid e2
 clear i2 i3 i4 i5 i6 e1 e2
 go_wp2_with fail
 refine(cut_any _ p p _ _ q3 (Nat.le_refl _) j0i3).mono ?_
 rintro e w' ⟨rfl,rfl⟩
 go_wp2_with fail
 refine(cut_one rest w2 j0i3 _ rfl).mono ?_
 rintro e w3 ⟨v,rfl,hv,hb3⟩
 go_wp2
 go_ret3
 exact⟨_,v,by rw [HE.out];rfl,q1.below hb3,by rw [if_neg j0i3,E2.out];exact hv,below_trans hb2 hb3⟩
end Go.Proofs.YtgilnmhejjpleaaGreat
namespace Go.Proofs.YtgilnmhejjpleaaGreat
open Go.RowKit
end Go.Proofs.YtgilnmhejjpleaaGreat
namespace Go.Proofs.YtgilnmhejjpleaaGreat
open Go.RowKit
def Lim(k:Nat)(w:World)(v:Value)(N:Nat):Prop :=
 ∃A n c f,v = .slice A n c∧n≤c∧Rd .u32 w A n f∧(∀j,j<n→f j<4294967296)∧n≤k∧num 4294967296 f n=N
theorem Lim.below {k:Nat} {w w':World} {v:Value} {N:Nat}(h:Lim k w v N)(hb:Below w.heap.size w w'):Lim k w' v N:=by
 obtain⟨A,n,c,f,h1,h2,h3,h4⟩:=h
 exact⟨A,n,c,f,h1,h2,h3.below hb,h4⟩
theorem Lim.lt {k:Nat} {w:World} {v:Value} {N:Nat}(h:Lim k w v N):N<4294967296 ^ k:=by
 obtain⟨A,n,c,f,h1,h2,h3,h4,h5,h6⟩:=h
 rw [← h6]
 exact Nat.lt_of_lt_of_le (num_lt j0i3 n h4) (Nat.pow_le_pow_right j0i3 h5)
theorem Lim.more {k k':Nat} {w:World} {v:Value} {N:Nat}(h:Lim k w v N)(hk:k≤k'):Lim k' w v N:=by
 obtain⟨A,n,c,f,h1,h2,h3,h4,h5,h6⟩:=h
 exact⟨A,n,c,f,h1,h2,h3,h4,by omega,h6⟩
theorem IsNat.lim {k:Nat} {w:World} {v:Value} {N:Nat}(h:IsNat w v N)(hN:N<4294967296 ^ k):Lim k w v N:=by
 obtain⟨A,n,c,f,h1,h2,h3,h4,h5,h6⟩:=h
 exact⟨A,n,c,f,h1,h2,h3,h4,h5.len (B:=4294967296) j0i3 (by rw [h6];exact hN),h6⟩
theorem lt_add {k m N M:Nat}(h:N<4294967296 ^ k)(h':M<4294967296 ^ m)(q:Nat)(hk:k<q)(hm:m<q):N+M<4294967296 ^ q:=by
 have h1:(4294967296:Nat) ^ k≤4294967296 ^ (q - 1):=Nat.pow_le_pow_right j0i3 j0i3
 have h2:(4294967296:Nat) ^ m≤4294967296 ^ (q - 1):=Nat.pow_le_pow_right j0i3 j0i3
 have h3:(4294967296:Nat) ^ q=4294967296 ^ (q - 1)*4294967296:=by rw [← Nat.pow_succ];congr 1;omega
 omega
theorem lt_mul {k m N M:Nat}(h:N<4294967296 ^ k)(h':M<4294967296 ^ m)(q:Nat)(hq:k+m≤q):N*M<4294967296 ^ q:=by
 have h1:N*M<4294967296 ^ k*4294967296 ^ m:=Nat.mul_lt_mul'' h h'
 rw [← Nat.pow_add] at h1
 exact Nat.lt_of_lt_of_le h1 (Nat.pow_le_pow_right j0i3 hq)
section
variable {k m:Nat} {w:World} {v1 v2:Value} {N M:Nat}
theorem lim_add(h1:Lim k w v1 N)(h2:Lim m w v2 M)(hk:k≤1000000)(hm:m≤1000000):Calls Tryz.prog 109 #[v1,v2] w fun e w'=>NatPost w w' e (N+M):=by
 obtain⟨A,n,c,f,rfl,a1,a2,a3,a4,rfl⟩:=h1
 obtain⟨B,m,d,h,rfl,b1,b2,b3,b4,rfl⟩:=h2
 exact add_any A n c f B m d h w a2 a1 j0i3 a3 b2 b1 j0i3 b3
theorem lim_mul(h1:Lim k w v1 N)(h2:Lim m w v2 M)(hk:k≤1000000)(hm:m≤1000000):Calls Tryz.prog 111 #[v1,v2] w fun e w'=>NatPost w w' e (N*M):=by
 obtain⟨A,n,c,f,rfl,a1,a2,a3,a4,rfl⟩:=h1
 obtain⟨B,m,d,h,rfl,b1,b2,b3,b4,rfl⟩:=h2
 exact mul_any A n c f B m d h w a2 a1 j0i3 a3 b2 b1 j0i3 b3
theorem lim_sub(h1:Lim k w v1 N)(h2:Lim m w v2 M)(hk:k≤1000000)(hm:m≤1000000):Calls Tryz.prog 110 #[v1,v2] w fun e w'=>SubPost w w' e N M:=by
 obtain⟨A,n,c,f,rfl,a1,a2,a3,a4,rfl⟩:=h1
 obtain⟨B,m,d,h,rfl,b1,b2,b3,b4,rfl⟩:=h2
 exact sub_any A n c f B m d h w a2 a1 j0i3 a3 b2 b1 j0i3 b3
theorem lim_cmp(h1:Lim k w v1 N)(h2:Lim m w v2 M)(hk:k≤1000000)(hm:m≤1000000):Calls Tryz.prog 117 #[v1,v2] w fun e w'=>CmpPost w w' e N M:=by
 obtain⟨A,n,c,f,rfl,a1,a2,a3,a4,rfl⟩:=h1
 obtain⟨B,m,d,h,rfl,b1,b2,b3,b4,rfl⟩:=h2
 exact cmp_any A n c f B m d h w a2 a1 j0i3 a3 b2 b1 j0i3 b3
theorem lim_trim(h1:Lim k w v1 N)(hk:k≤1000000):Calls Tryz.prog 102 #[v1] w fun e w'=>NatPost w w' e N:=by
 obtain⟨A,n,c,f,rfl,a1,a2,a3,a4,rfl⟩:=h1
 refine(trim_any A n c f w a2 a1 j0i3).mono ?_
 rintro e w' ⟨rfl,f',h1,h2,h3,_⟩
 refine⟨_,rfl,⟨_,_,_,f',rfl,Nat.le_refl _,h1.rd0 (Nat.le_refl _),fun j hj=>by rw [h2 j hj];exact tlen_lt_dig a3 j hj,?_,by rw [num_congr _ h2,num_tlen]⟩,h3⟩
 rcases tlen_trimmed (f:=f) n with h | h
 ·exact .inl h
 ·by_cases h0:tlen f n=0
  ·exact .inl h0
  ·exact .inr (by rw [h2 _ j0i3];exact h)
theorem isNat_same(h1:IsNat w v1 N)(h2:IsNat w v2 N)(hN:N<4294967296 ^ k)(hk:k≤1000000):Calls Tryz.prog 83 #[v1,v2] w fun e w'=>e = .returned (.bool true)∧Below w.heap.size w w':=by
 obtain⟨A,n,c,f,rfl,a1,a2,a3,a4,a5⟩:=h1
 obtain⟨B,m,d,h,rfl,b1,b2,b3,b4,b5⟩:=h2
 obtain⟨rfl,he⟩:=a4.uniq b4 (B:=4294967296) j0i3 a3 b3 (by rw [a5,b5])
 have hn:n≤k:=a4.len (B:=4294967296) j0i3 (by rw [a5];exact hN)
 exact same_true A n c f B d h w a2 b2 j0i3 he
def DivYes(w w':World)(e:Ending)(x y:Nat):Prop := ∃vq vr,e = .returned (.tuple #[vq,vr,.bool true])∧IsNat w' vq (x / y)∧IsNat w' vr (x % y)∧Below w.heap.size w w'
theorem DivPost.yes {w':World} {e:Ending} {x y:Nat}(h:DivPost w w' e x y)(hy:0<y):DivYes w w' e x y:=by
 obtain⟨vq,vr,h1,h2,h3,h4⟩:=h
 rw [if_neg j0i3] at h3
 exact⟨vq,vr,by rw [h1,decide_eq_true hy],h2,h3,h4⟩
def SubYes(w w':World)(e:Ending)(x y:Nat):Prop := ∃v,e = .returned (.tuple #[v,.bool true])∧IsNat w' v (x - y)∧Below w.heap.size w w'
def SubNo(w w':World)(e:Ending):Prop := ∃v,e = .returned (.tuple #[v,.bool false])∧IsNat w' v 0∧Below w.heap.size w w'
theorem SubPost.yes {w':World} {e:Ending} {x y:Nat}(h:SubPost w w' e x y)(hy:y≤x):SubYes w w' e x y:=by
 obtain⟨v,h1,h2,h3⟩:=h
 exact⟨v,by rw [h1,decide_eq_true hy],h2,h3⟩
theorem SubPost.no {w':World} {e:Ending} {x y:Nat}(h:SubPost w w' e x y)(hy:x<y):SubNo w w' e:=by
 obtain⟨v,h1,h2,h3⟩:=h
 rw [Nat.sub_eq_zero_of_le j0i3] at h2
 exact⟨v,by rw [h1,decide_eq_false j0i3],h2,h3⟩
theorem lit_one(w:World)(g:Nat)(hg:g=w.heap.size)(x:Nat)(x':Int)(hx':x'=x)(hx:x<4294967296):Lim 1 (w.alloc (.cells #[.int .u32 x'] 117)) (.slice (some ⟨g,0,none⟩) 1 1) x:=by
 subst hg
 subst hx'
 exact⟨_,1,1,fun _=>x,rfl,Nat.le_refl _,(row_one w x).rd0 (Nat.le_refl _),fun _ _=>hx,Nat.le_refl _,by simp [num]⟩
theorem lit_two(w:World)(g:Nat)(hg:g=w.heap.size)(x y:Nat)(x' y':Int)(hx':x'=x)(hy':y'=y)(hx:x<4294967296)(hy:y<4294967296):Lim 2 (w.alloc (.cells #[.int .u32 x',.int .u32 y'] 117)) (.slice (some ⟨g,0,none⟩) 2 2) (x+y*4294967296):=by
 subst hg
 subst hx'
 subst hy'
 exact⟨_,2,2,two x y,rfl,Nat.le_refl _,(row_two w x y).rd0 (Nat.le_refl _),fun j _=>by unfold two;split <;> omega,Nat.le_refl _,by simp [num,two]⟩
end
end Go.Proofs.YtgilnmhejjpleaaGreat
namespace Go.Proofs.YtgilnmhejjpleaaGreat
open Go.RowKit
end Go.Proofs.YtgilnmhejjpleaaGreat
namespace Go.Proofs.YtgilnmhejjpleaaGreat
open Go.RowKit
theorem row_of {w:World} {a:Option Addr} {len cap:Nat} {zs:List Int}
 (h:(a=none∧len=0∧cap=0∧zs = [])∨∃x,a=some x∧len≤cap∧cap≤maxLen∧zs.length=cap∧(∀i,i<zs.length→w.cell? (x.add i)=some (.int .u32 (zs.getD i 0)))∧∀n∈zs,(Lit.int .u32 n).wf=true) :
 len≤cap∧∃f,Rd .u32 w a len f∧(∀j,j<len→f j<4294967296):=by
 rcases h with ⟨rfl,rfl,rfl,rfl⟩ | ⟨x,rfl,hl,hm,hz,hcell,hwf⟩
 ·exact⟨Nat.le_refl _,fun _=>0,Rd.zero,fun j hj=>absurd hj j0i3⟩
 ·have hb : ∀j,j<len→0≤zs.getD j 0∧zs.getD j 0<4294967296:=fun j hj=>by
   have hjl:j<zs.length := j0i3
   have hmem:zs.getD j 0∈zs:=by
    rw [List.getD,List.getElem?_eq_getElem hjl];exact List.getElem_mem hjl
   have:=hwf _ hmem
   generalize zs.getD j 0=q at this ⊢
   simp [Lit.wf,IntKind.min,IntKind.max,IntKind.bits,IntKind.signed] at this
   omega
  refine⟨hl,fun j=>(zs.getD j 0).toNat,fun j hj=>⟨x,rfl,?_⟩,fun j hj=>by
   have:=hb j hj
   show(zs.getD j 0).toNat<4294967296
   generalize zs.getD j 0=q at this ⊢
   omega⟩
  rw [hcell j j0i3,Int.toNat_of_nonneg (hb j hj).1]
theorem lim_of {w:World} {a:Option Addr} {len cap:Nat} {zs:List Int}(k:Nat)(hk:len≤k)
 (h:(a=none∧len=0∧cap=0∧zs = [])∨∃x,a=some x∧len≤cap∧cap≤maxLen∧zs.length=cap∧(∀i,i<zs.length→w.cell? (x.add i)=some (.int .u32 (zs.getD i 0)))∧∀n∈zs,(Lit.int .u32 n).wf=true) :
 ∃N,Lim k w (.slice a len cap) N:=by
 obtain⟨hl,f,h1,h2⟩:=row_of h
 exact⟨_,a,len,cap,f,rfl,hl,h1,h2,hk,rfl⟩
end Go.Proofs.YtgilnmhejjpleaaGreat
namespace Go.Proofs.YtgilnmhejjpleaaGreat
open Go.RowKit
theorem lim_cmp_is {k m:Nat} {w:World} {v1 v2:Value} {N M:Nat}(r:Int)(hr:cmpN N M=r)(h1:Lim k w v1 N)(h2:Lim m w v2 M)(hk:k≤1000000)(hm:m≤1000000) :
 Calls Tryz.prog 117 #[v1,v2] w fun e w'=>e = .returned (.int .i64 r)∧Below w.heap.size w w':=by
 subst hr
 exact lim_cmp h1 h2 hk hm
theorem cmpN_lt {N M:Nat}(h:N<M):cmpN N M = -1:=by unfold cmpN;rw [if_pos h]
theorem cmpN_eq(N:Nat):cmpN N N=0:=by unfold cmpN;rw [if_neg j0i3,if_pos rfl]
theorem cmpN_gt {N M:Nat}(h:M<N):cmpN N M=1:=by unfold cmpN;rw [if_neg j0i3,if_neg j0i3]
end Go.Proofs.YtgilnmhejjpleaaGreat
