/- Merged of Cb,Cd,Ce,Cf,Ch,Ci,Cj,Ck. -/
import Derived.Test.YtgilnmhejjpleaaGreatPNat0
import Derived.Deep.RegionWith
import Derived.StillTailTactics
import Derived.BigGuardPart
import Derived.Laws.BitsAllLaws
namespace Go.Proofs.YtgilnmhejjpleaaGreat
open Go.RowKit
theorem jr6o {P:Prop}(h:P:=by rw [Nat.mul_comm (4294967296) q, Nat.mul_assoc, Nat.mul_comm T]):P:=h
theorem jyif {P:Prop}(h:P:=by rw [beq_eq_false_iff_ne]; omega):P:=h
set_option maxHeartbeats 400000 in
theorem add32_any(x y c:Nat)(hx:x<4294967296)(hy:y<4294967296)(hc:c<4294967296)(w:World) :
 Calls Tryz.prog 140 #[.int .u32 x,.int .u32 y,.int .u32 c] w fun e w'=>e = .returned (.tuple #[.int .u32 ((x+y+c) % 4294967296:Nat),.int .u32 ((x+y+c) / 4294967296:Nat)])∧w'=w:=by
 go_enter Tryz.func140,Tryz.ntmps140
 go_wp2
 go_ret2
 exact⟨rfl,rfl⟩
def AddInv(w wr:World)(g o sz k cr:Nat)(f h f':Nat→Nat):Prop :=
 cr≤1∧Row .u32 117 wr g sz f'∧Wr g w wr∧(∀j,¬ (o≤j∧j<o+k)→f' j=f j)∧(∀j,j<k→f' (o+j)<4294967296)∧
  num 4294967296 (fun j=>f' (o+j)) k+cr*4294967296 ^ k=num 4294967296 (fun j=>f (o+j)) k+num 4294967296 h k
theorem AddInv.step {w wr:World} {g o sz k cr:Nat} {f h f':Nat→Nat}(hi:AddInv w wr g o sz k cr f h f')(hk:o+k<sz)(hf:f (o+k)<4294967296)(hh:h k<4294967296) :
 AddInv w (wr.setCell ⟨g,o+k,none⟩ (.int .u32 ((f' (o+k)+h k+cr) % 4294967296:Nat))) g o sz (k+1) ((f' (o+k)+h k+cr) / 4294967296) f h (upd f' (o+k) ((f' (o+k)+h k+cr) % 4294967296)):=by
 obtain⟨h1,h2,h3,h4,h5,h6⟩:=hi
 have e0:f' (o+k)=f (o+k):=h4 _ j0i3
 refine⟨by omega,h2.set_ _ _,h3.setCell _ _,fun j hj=>?_,fun j hj=>?_,?_⟩
 ·rw [upd_ne _ _ _ j0i3];exact h4 j j0i3
 ·by_cases hjk:j=k
  ·subst hjk;rw [upd_same];exact Nat.mod_lt _ j0i3
  ·rw [upd_ne _ _ _ j0i3];exact h5 j j0i3
 ·rw [num_succ,num_succ,num_succ,upd_same,num_congr (f':=fun j=>f' (o+j)) k (fun j hj=>upd_ne _ _ _ j0i3),e0]
  rw [e0] at *
  have hd:=Nat.div_add_mod (f (o+k)+h k+cr) 4294967296
  generalize (f (o+k)+h k+cr) % 4294967296=r at *
  generalize (f (o+k)+h k+cr) / 4294967296=q at *
  rw [Nat.pow_succ]
  generalize 4294967296 ^ k=T at *
  have e1:q*(T*4294967296)=(4294967296*q)*T := jr6o
  rw [e1]
  have e2:4294967296*q=f (o+k)+h k+cr - r := j0i3
  have e3:r*T+(4294967296*q)*T=(f (o+k)+h k+cr)*T:=by rw [← Nat.add_mul];congr 1;omega
  rw [Nat.add_mul,Nat.add_mul] at e3
  omega
theorem AddInv.stepD {w wr:World} {g o sz k cr:Nat} {f h f':Nat→Nat}(hi:AddInv w wr g o sz k cr f h f')(hk:o+k<sz)(hf:f (o+k)<4294967296)(hh:h k<4294967296)
 (x:Int) (hx:x=((f' (o+k)+h k+cr) % 4294967296:Nat)) :
 AddInv w (wr.setCell ⟨g,o+k,none⟩ (.int .u32 x)).drew g o sz (k+1) ((f' (o+k)+h k+cr) / 4294967296) f h (upd f' (o+k) ((f' (o+k)+h k+cr) % 4294967296)):=by
 subst hx
 obtain⟨h1,h2,h3,h4⟩:=hi.step hk hf hh
 exact⟨h1,h2.drew,h3.drew,h4⟩
theorem AddInv.ext {w wr:World} {g o sz k n:Nat} {f h f':Nat→Nat}(hi:AddInv w wr g o sz k 0 f h f')(hk:k≤n)(hf : ∀j,j<n→f (o+j)<4294967296)(hh : ∀j,k≤j→j<n→h j=0) :
 AddInv w wr g o sz n 0 f h f':=by
 induction n with
 |zero=>obtain rfl:k=0:=by omega
        exact hi
 |succ n ih =>
  by_cases hkn:k=n+1
  ·subst hkn;exact hi
  ·obtain⟨h1,h2,h3,h4,h5,h6⟩:=ih j0i3 (fun j hj=>hf j j0i3) (fun j a b=>hh j a j0i3)
   have e0:f' (o+n)=f (o+n):=by
    obtain⟨_,_,_,h4,_⟩:=hi
    exact h4 _ j0i3
   refine⟨h1,h2,h3,fun j hj=>h4 j j0i3,fun j hj=>?_,?_⟩
   ·by_cases hjn:j=n
    ·subst hjn;rw [e0];exact hf j j0i3
    ·exact h5 j j0i3
   ·rw [num_succ,num_succ,num_succ,hh n j0i3 j0i3,e0]
    omega
theorem AddInv.congr {w wr:World} {g o sz k cr:Nat} {f h h' f':Nat→Nat}(hi:AddInv w wr g o sz k cr f h f')(he : ∀j,j<k→h j=h' j):AddInv w wr g o sz k cr f h' f':=by
 obtain⟨h1,h2,h3,h4,h5,h6⟩:=hi
 exact⟨h1,h2,h3,h4,h5,by rw [h6,num_congr k he]⟩
def AddPost(w w':World)(e:Ending)(g o n m sz:Nat)(f h:Nat→Nat):Prop :=
 ∃cr f',e = .returned (.int .u32 (cr:Nat))∧AddInv w w' g o sz n cr f (fun j=>if j<m then h j else 0) f'
set_option maxHeartbeats 1000000 in
theorem addTo_any(g o n c:Nat)(B:Option Addr)(m d sz:Nat)(f h:Nat→Nat)(w:World)(hrow:Row .u32 117 w g sz f)(hsz:o+n≤sz)(hc:n≤c)(hmn:m≤n)(hd:m≤d)
 (hr:Rd .u32 w B m h) (hoff:0<m→Off B g) (hf : ∀j,j<n→f (o+j)<4294967296) (hh : ∀j,j<m→h j<4294967296) (hn:n≤4611686018427387904) :
 Calls Tryz.prog 128 #[.slice (some ⟨g,o,none⟩) n c,.slice B m d] w fun e w'=>AddPost w w' e g o n m sz f h:=by
 go_enter Tryz.func128,Tryz.ntmps128
 go_wp2
 go_loopw [5,10] (fun v5 v10 wr => ∃k cr f',k≤m∧v5 = .int .u32 (cr:Nat)∧v10 = .int .i64 (k:Nat)∧AddInv w wr g o sz k cr f h f') (fun _ v10 _=>m - (intOf v10).toNat)
 case atStart=>exact⟨0,0,f,Nat.zero_le _,rfl,rfl,by omega,hrow,Wr.refl,fun _ _=>rfl,fun _ hj=>absurd hj j0i3,by simp [num]⟩
 case round =>
  obtain⟨k,cr,f',hk,rfl,rfl,hinv⟩:=hrel
  have HH:=Lib.hid hh
  have HF:=Lib.hid hf
  have HR:=Lib.hid hr
  have HO:=Lib.hid hoff
  clear hh hf hr hoff hrow
  by_cases hlt:k<m
  ·have hinv':=hinv
   obtain⟨hcr,hrow',hwr,hsame,hbd,hnum⟩:=hinv'
   obtain⟨ad,rfl,hcell⟩:=(HR.out.wr (HO.out j0i3) hwr) k hlt
   have hcell2:=hrow'.cell (j:=o+k) j0i3
   have hfz:=hrow'.frozen (o+k)
   have b0:f (o+k)<4294967296:=HF.out k j0i3
   have b1:f' (o+k)<4294967296:=by rw [hsame (o+k) j0i3];exact b0
   have b2:h k<4294967296:=HH.out k hlt
   have HS:=Lib.hid hsame
   have HB:=Lib.hid hbd
   have HN:=Lib.hid hnum
   clear hsame hbd hnum
   go_wp2
   go_region_with (go_at_call 140;refine(add32_any _ _ _ b1 b2 j0i3 _).mono ?_;rintro e w' ⟨rfl,rfl⟩)
   all_goals
    go_wp2
    go_roundw
    case rel=>exact⟨k+1,_,_,by omega,rfl,by go_num,hinv.stepD j0i3 b0 b2 _ rfl⟩
    case measure=>simp [intOf];omega
  ·obtain rfl:k=m:=by omega
   have hcr:cr≤1:=hinv.1
   have hinv2:AddInv w wr g o sz k cr f (fun j=>if j<k then h j else 0) f':=hinv.congr fun j hj=>(if_pos hj).symm
   clear hinv
   go_wp2
   go_loopw [5,7] (fun v5 v7 wr => ∃i cr f',k≤i∧i≤n∧v5 = .int .u32 (cr:Nat)∧v7 = .int .i64 (i:Nat)∧AddInv w wr g o sz i cr f (fun j=>if j<k then h j else 0) f') (fun _ v7 _=>n - (intOf v7).toNat)
   case atStart=>exact⟨k,cr,f',Nat.le_refl _,hmn,rfl,rfl,hinv2⟩
   case round =>
    clear hinv2 hcr
    obtain⟨i,cr,f',hki,hin,rfl,rfl,hinv⟩:=hrel
    by_cases hin':i<n
    ·by_cases hc0:cr=0
     ·subst hc0
      go_wp2
      go_ret
      exact⟨0,f',rfl,hinv.ext hin (fun j hj=>HF.out j hj) (fun j a _=>if_neg j0i3)⟩
     ·have hg:((cr:Int) != 0)=true:=by rw [bne_iff_ne];omega
      have hcr:cr≤1:=hinv.1
      have hsame:=hinv.2.2.2.1
      have hcell2:=hinv.2.1.cell (j:=o+i) j0i3
      have hfz:=hinv.2.1.frozen (o+i)
      have b0:f (o+i)<4294967296:=HF.out i j0i3
      have b1:f' (o+i)<4294967296:=by rw [hsame (o+i) j0i3];exact b0
      clear hsame
      go_wp2_with (go_at_call 140;refine(add32_any _ 0 _ b1 j0i3 j0i3 _).mono ?_;rintro e w' ⟨rfl,rfl⟩)
      go_roundw
      case rel=>exact⟨i+1,_,_,by omega,by omega,rfl,by go_num,by
       have:=hinv.step j0i3 b0 (by rw [if_neg j0i3];omega)
       rw [if_neg j0i3] at this
       exact this⟩
      case measure=>simp [intOf];omega
    ·obtain rfl:i=n:=by omega
     go_wp2
     go_ret
     exact⟨cr,f',rfl,hinv⟩
end Go.Proofs.YtgilnmhejjpleaaGreat
namespace Go.Proofs.YtgilnmhejjpleaaGreat
open Go.RowKit
theorem add_end {w w1 w2 w3:World} {n m:Nat} {f h:Nat→Nat}(hf : ∀j,j<n→f j<4294967296)(hm:m≤n)
 (hb1:Below w.heap.size w w1) (hwr2:Wr w.heap.size w1 w2) {cr:Nat} {f1:Nat→Nat}
 (hi:AddInv w2 w3 w.heap.size 0 (n+1) n cr (splF (fun _=>0) 0 n f) (fun j=>if j<m then h j else 0) f1) :
 let W:=w3.setCell ⟨w.heap.size,n,none⟩ (.int .u32 (cr:Nat))
 Rd .u32 W (some ⟨w.heap.size,0,none⟩) (n+1) (upd f1 n cr)∧IsNat W (.slice (some ⟨w.heap.size,0,none⟩) (tlen (upd f1 n cr) (n+1)) (n+1)) (num 4294967296 f n+num 4294967296 h m)∧Below w.heap.size w W:=by
 obtain⟨hcr,hrow3,hwr3,hsame,hbd,hnum⟩:=hi
 have hrow:=hrow3.set_ n cr
 refine⟨hrow.rd0 (Nat.le_refl _),isNat_row hrow (Nat.le_refl _) (Nat.le_refl _) (fun j hj=>?_) ?_,?_⟩
 ·by_cases hjn:j=n
  ·subst hjn;rw [upd_same];omega
  ·rw [upd_ne _ _ _ hjn];have:=hbd j j0i3;rwa [Nat.zero_add] at this
 ·rw [num_succ,upd_same,num_upd _ _ (Nat.le_refl _)]
  rw [num_pad n hm] at hnum
  have e1:num 4294967296 (fun j=>f1 (0+j)) n=num 4294967296 f1 n:=num_congr n fun j _=>by rw [Nat.zero_add]
  have e2:num 4294967296 (fun j=>splF (fun _=>0) 0 n f (0+j)) n=num 4294967296 f n:=num_congr n fun j hj=>by
   simp only [splF,Nat.zero_add,Nat.sub_zero];rw [if_pos ⟨Nat.zero_le _,hj⟩]
  rw [e1,e2] at hnum
  exact hnum
 ·exact(hwr3.setCell n _).below (hwr2.below hb1 hb1.size (Nat.le_refl _)) (by have:=hwr2.size;have:=hb1.size;omega) (Nat.le_refl _)
set_option maxHeartbeats 1000000 in
theorem add_ge(A:Option Addr)(n c:Nat)(f:Nat→Nat)(B:Option Addr)(m d:Nat)(h:Nat→Nat)(w:World)(ha:Rd .u32 w A n f)(hc:n≤c)(hn:n≤17592186044415)(hf : ∀j,j<n→f j<4294967296)
 (hb:Rd .u32 w B m h) (hd:m≤d) (hm:m≤17592186044415) (hh : ∀j,j<m→h j<4294967296) (hle:tlen h m≤tlen f n) :
 Calls Tryz.prog 109 #[.slice A n c,.slice B m d] w fun e w'=>NatPost w w' e (num 4294967296 f n+num 4294967296 h m):=by
 have ht:=tlen_le (f:=f) n
 have hu:=tlen_le (f:=h) m
 have HF:=Lib.hid hf
 have HH:=Lib.hid hh
 clear hf hh
 go_enter Tryz.func109,Tryz.ntmps109
 go_wp2_with fail
 refine(cut_any A n c f _ ha hc j0i3).mono ?_
 rintro e w' ⟨rfl,rfl⟩
 go_wp2_with fail
 refine(cut_any B m d h _ hb hd j0i3).mono ?_
 rintro e w' ⟨rfl,rfl⟩
 go_wp2_with (first
  |(at_make;refine wpList_make_row rfl _ _ 32 rfl .u32 117 Tryz.underlying32 4 u32_info j0i3 .i64 .i64 _ _ (tlen f n+1) rfl rfl rfl rfl j0i3 ?_;intro w1 hrow1 hb1 hs1)
  |(with_reducible refine wpList_copy_rd rfl (.tmp 21) (.tmp 22) 32 32 rfl 117 Tryz.underlying32 u32_size .u32 _ 0 (tlen f n+1) (tlen f n+1) A (tlen f n) c rfl rfl 117 (tlen f n+1) (fun _=>0) hrow1 f (tlen f n) (Nat.min_eq_left j0i3).symm ((ha.below hb1).less ht) j0i3 ?_
    intro w2 hrow2 hwr2 hs2))
 have hb2:=hwr2.below hb1 hb1.size (Nat.le_refl _)
 refine(addTo_any w.heap.size 0 (tlen f n) _ B (tlen h m) d (tlen f n+1) _ h w2 hrow2 j0i3 j0i3 hle j0i3 ((hb.below hb2).less hu) (fun hp=>hb.off_lt j0i3 (Nat.le_refl _)) ?_ ?_ j0i3).mono ?_
 ·intro j hj
  simp only [splF,Nat.zero_add,Nat.sub_zero]
  rw [if_pos ⟨Nat.zero_le _,hj⟩]
  exact HF.out j j0i3
 ·intro j hj
  exact HH.out j j0i3
 rintro e w3 ⟨cr,f1,rfl,hinv⟩
 obtain⟨q1,q2,q3⟩:=add_end (tlen_lt_dig HF.out) hle hb1 hwr2 hinv
 have hcell:=hinv.2.1.cell (j:=tlen f n) j0i3
 have hfz:=hinv.2.1.frozen (tlen f n)
 clear hinv hrow1 hrow2
 rw [num_tlen,num_tlen] at q2
 go_wp2_with fail
 refine(cut_any _ (tlen f n+1) (tlen f n+1) _ _ q1 (Nat.le_refl _) j0i3).mono ?_
 rintro e w' ⟨rfl,rfl⟩
 go_wp2
 go_ret
 exact⟨_,rfl,q2,q3⟩
set_option maxHeartbeats 1000000 in
theorem add_lt(A:Option Addr)(n c:Nat)(f:Nat→Nat)(B:Option Addr)(m d:Nat)(h:Nat→Nat)(w:World)(ha:Rd .u32 w A n f)(hc:n≤c)(hn:n≤17592186044415)(hf : ∀j,j<n→f j<4294967296)
 (hb:Rd .u32 w B m h) (hd:m≤d) (hm:m≤17592186044415) (hh : ∀j,j<m→h j<4294967296) (hlt:tlen f n<tlen h m) :
 Calls Tryz.prog 109 #[.slice A n c,.slice B m d] w fun e w'=>NatPost w w' e (num 4294967296 h m+num 4294967296 f n):=by
 have ht:=tlen_le (f:=f) n
 have hu:=tlen_le (f:=h) m
 have HF:=Lib.hid hf
 have HH:=Lib.hid hh
 clear hf hh
 go_enter Tryz.func109,Tryz.ntmps109
 go_wp2_with fail
 refine(cut_any A n c f _ ha hc j0i3).mono ?_
 rintro e w' ⟨rfl,rfl⟩
 go_wp2_with fail
 refine(cut_any B m d h _ hb hd j0i3).mono ?_
 rintro e w' ⟨rfl,rfl⟩
 go_wp2_with (first
  |(at_make;refine wpList_make_row rfl _ _ 32 rfl .u32 117 Tryz.underlying32 4 u32_info j0i3 .i64 .i64 _ _ (tlen h m+1) rfl rfl rfl rfl j0i3 ?_;intro w1 hrow1 hb1 hs1)
  |(with_reducible refine wpList_copy_rd rfl (.tmp 21) (.tmp 22) 32 32 rfl 117 Tryz.underlying32 u32_size .u32 _ 0 (tlen h m+1) (tlen h m+1) B (tlen h m) d rfl rfl 117 (tlen h m+1) (fun _=>0) hrow1 h (tlen h m) (Nat.min_eq_left j0i3).symm ((hb.below hb1).less hu) j0i3 ?_
    intro w2 hrow2 hwr2 hs2))
 have hb2:=hwr2.below hb1 hb1.size (Nat.le_refl _)
 refine(addTo_any w.heap.size 0 (tlen h m) _ A (tlen f n) c (tlen h m+1) _ f w2 hrow2 j0i3 j0i3 j0i3 j0i3 ((ha.below hb2).less ht) (fun hp=>ha.off_lt j0i3 (Nat.le_refl _)) ?_ ?_ j0i3).mono ?_
 ·intro j hj
  simp only [splF,Nat.zero_add,Nat.sub_zero]
  rw [if_pos ⟨Nat.zero_le _,hj⟩]
  exact HH.out j j0i3
 ·intro j hj
  exact HF.out j j0i3
 rintro e w3 ⟨cr,f1,rfl,hinv⟩
 obtain⟨q1,q2,q3⟩:=add_end (tlen_lt_dig HH.out) j0i3 hb1 hwr2 hinv
 have hcell:=hinv.2.1.cell (j:=tlen h m) j0i3
 have hfz:=hinv.2.1.frozen (tlen h m)
 clear hinv hrow1 hrow2
 rw [num_tlen,num_tlen] at q2
 go_wp2_with fail
 refine(cut_any _ (tlen h m+1) (tlen h m+1) _ _ q1 (Nat.le_refl _) j0i3).mono ?_
 rintro e w' ⟨rfl,rfl⟩
 go_wp2
 go_ret
 exact⟨_,rfl,q2,q3⟩
theorem add_any(A:Option Addr)(n c:Nat)(f:Nat→Nat)(B:Option Addr)(m d:Nat)(h:Nat→Nat)(w:World)(ha:Rd .u32 w A n f)(hc:n≤c)(hn:n≤17592186044415)(hf : ∀j,j<n→f j<4294967296)
 (hb:Rd .u32 w B m h) (hd:m≤d) (hm:m≤17592186044415) (hh : ∀j,j<m→h j<4294967296) :
 Calls Tryz.prog 109 #[.slice A n c,.slice B m d] w fun e w'=>NatPost w w' e (num 4294967296 f n+num 4294967296 h m):=by
 by_cases hle:tlen h m≤tlen f n
 ·exact add_ge A n c f B m d h w ha hc hn hf hb hd hm hh hle
 ·rw [Nat.add_comm]
  exact add_lt A n c f B m d h w ha hc hn hf hb hd hm hh j0i3
end Go.Proofs.YtgilnmhejjpleaaGreat
namespace Go.Proofs.YtgilnmhejjpleaaGreat
open Go.RowKit
theorem Below.drewN_ {w wr:World} {B:Nat}(h:Below B w wr)(n:Nat):Below B w (wr.drewN n):=⟨h.os,h.tape,h.output,h.size,h.block⟩
set_option maxHeartbeats 1000000 in
theorem same_true(A:Option Addr)(n c:Nat)(f:Nat→Nat)(B:Option Addr)(d:Nat)(h:Nat→Nat)(w:World)(ha:Rd .u32 w A n f)(hb:Rd .u32 w B n h)(hn:n≤4611686018427387904)(he : ∀j,j<n→f j=h j) :
 Calls Tryz.prog 83 #[.slice A n c,.slice B n d] w fun e w'=>e = .returned (.bool true)∧Below w.heap.size w w':=by
 go_enter Tryz.func83,Tryz.ntmps83
 go_wp2
 go_loopw [5] (fun v wr => ∃k:Nat,k≤n∧v = .int .i64 k∧Below w.heap.size w wr) (fun v _=>n - (intOf v).toNat)
 case atStart=>exact⟨0,Nat.zero_le _,rfl,Below.refl _ _⟩
 case round =>
  obtain⟨k,hk,rfl,hbl⟩:=hrel
  have HA:=Lib.hid ha
  have HB:=Lib.hid hb
  have HE:=Lib.hid he
  clear ha hb he
  by_cases hlt:k<n
  ·obtain⟨ad,rfl,hc1⟩:=(HA.out.below hbl) k hlt
   obtain⟨bd,rfl,hc2⟩:=(HB.out.below hbl) k hlt
   rw [← HE.out k hlt] at hc2
   go_wp2
   go_quiet (fail)
   go_wp2
   go_roundw
   case rel=>exact⟨k+1,by omega,by go_num,Below.drewN_ hbl _⟩
   case measure=>simp [intOf];omega
  ·go_wp2
   go_ret
   exact⟨rfl,hbl⟩
end Go.Proofs.YtgilnmhejjpleaaGreat
namespace Go.Proofs.YtgilnmhejjpleaaGreat
open Go.RowKit
def cmpN(x y:Nat):Int:=if x<y then -1 else if x=y then 0 else 1
set_option maxHeartbeats 400000 in
theorem sign_t(w:World):Calls Tryz.prog 133 #[.bool true] w fun e w'=>e = .returned (.int .i64 (-1))∧w'=w:=by
 go_enter Tryz.func133,Tryz.ntmps133
 go_wp2
 go_ret
 exact⟨rfl,rfl⟩
set_option maxHeartbeats 400000 in
theorem sign_f(w:World):Calls Tryz.prog 133 #[.bool false] w fun e w'=>e = .returned (.int .i64 1)∧w'=w:=by
 go_enter Tryz.func133,Tryz.ntmps133
 go_wp2
 go_ret
 exact⟨rfl,rfl⟩
theorem num_top_lt {B:Nat} {f h:Nat→Nat}(hB:0<B) {n j:Nat}(hj:j<n)(hf : ∀i,i<n→f i<B)(ht:f j<h j)(he : ∀i,j<i→i<n→f i=h i):num B f n<num B h n:=by
 induction n with
 |zero=>omega
 |succ n ih =>
  rw [num_succ,num_succ]
  by_cases hjn:j=n
  ·subst hjn
   have h1:=num_lt hB j (fun i hi=>hf i j0i3)
   have h2:(f j+1)*B ^ j≤h j*B ^ j:=Nat.mul_le_mul_right _ ht
   rw [Nat.add_mul,Nat.one_mul] at h2
   omega
  ·have h1:=ih j0i3 (fun i hi=>hf i j0i3) (fun i a b=>he i a j0i3)
   rw [he n j0i3 j0i3]
   omega
theorem num_len_lt {B:Nat} {f h:Nat→Nat}(hB:1<B) {n m:Nat}(hf : ∀i,i<n→f i<B)(ht:Trimmed h m)(hnm:n<m):num B f n<num B h m:=by
 have h1:=num_lt j0i3 n hf
 have h2:=ht.low (B:=B) j0i3
 have h3:B ^ n≤B ^ (m - 1):=Nat.pow_le_pow_right j0i3 j0i3
 omega
def CmpPost(w w':World)(e:Ending)(x y:Nat):Prop:=e = .returned (.int .i64 (cmpN x y))∧Below w.heap.size w w'
set_option maxHeartbeats 1000000 in
theorem cmp_any(A:Option Addr)(n c:Nat)(f:Nat→Nat)(B:Option Addr)(m d:Nat)(h:Nat→Nat)(w:World)(ha:Rd .u32 w A n f)(hc:n≤c)(hn:n≤17592186044416)(hf : ∀j,j<n→f j<4294967296)
 (hb:Rd .u32 w B m h) (hd:m≤d) (hm:m≤17592186044416) (hh : ∀j,j<m→h j<4294967296) :
 Calls Tryz.prog 117 #[.slice A n c,.slice B m d] w fun e w'=>CmpPost w w' e (num 4294967296 f n) (num 4294967296 h m):=by
 have ht:=tlen_le (f:=f) n
 have hu:=tlen_le (f:=h) m
 rw [← num_tlen (f:=f) n,← num_tlen (f:=h) m]
 have HF:=Lib.hid (tlen_lt_dig hf)
 have HH:=Lib.hid (tlen_lt_dig hh)
 have HFt:=Lib.hid (tlen_trimmed (f:=f) n)
 have HHt:=Lib.hid (tlen_trimmed (f:=h) m)
 have ha':=ha.less ht
 have hb':=hb.less hu
 have C1:=fun w' hr'=>cut_any A n c f w' hr' hc j0i3
 have C2:=fun w' hr'=>cut_any B m d h w' hr' hd j0i3
 generalize tlen h m=q at *
 generalize tlen f n=p at *
 have D1:=Lib.hid C1
 have D2:=Lib.hid C2
 clear C1 C2 hf hh
 by_cases hne:p=q
 ·subst hne
  go_enter Tryz.func117,Tryz.ntmps117
  go_wp2_with fail
  refine(D1.out _ ha).mono ?_
  rintro e w' ⟨rfl,rfl⟩
  go_wp2_with fail
  refine(D2.out _ hb).mono ?_
  rintro e w' ⟨rfl,rfl⟩
  clear ha hb
  have hq:p≤17592186044416 := j0i3
  have hg1:((p:Int) != (p:Int))=false := jupy
  go_wp2
  go_loopw [24] (fun v wr => ∃k:Nat,k≤p∧v = .int .i64 k∧Below w.heap.size w wr∧∀j,p - k≤j→j<p→f j=h j) (fun v _=>p - (intOf v).toNat)
  case atStart=>exact⟨0,Nat.zero_le _,rfl,Below.refl _ _,fun j h1 h2=>by omega⟩
  case round =>
   obtain⟨k,hk,rfl,hbl,hs⟩:=hrel
   have HA:=Lib.hid ha'
   have HB:=Lib.hid hb'
   have HS:=Lib.hid hs
   clear ha' hb' hs
   by_cases hlt:k<p
   ·obtain⟨ad,rfl,hc1⟩:=(HA.out.below hbl) (p - 1 - k) j0i3
    obtain⟨bd,rfl,hc2⟩:=(HB.out.below hbl) (p - 1 - k) j0i3
    by_cases he:f (p - 1 - k)=h (p - 1 - k)
    ·rw [← he] at hc2
     have HE:=Lib.hid he
     clear he
     go_wp2
     go_quiet (fail)
     go_wp2
     go_roundw
     case rel=>exact⟨k+1,by omega,by go_num,Below.drewN_ hbl _,fun j h1 h2=>by
      by_cases hjk:j=p - 1 - k
      ·subst hjk;exact HE.out
      ·exact HS.out j j0i3 h2⟩
     case measure=>simp [intOf];omega
    ·have hg2:((f (p - 1 - k):Int) != (h (p - 1 - k):Int))=true:=by rw [bne_iff_ne];omega
     by_cases hl:f (p - 1 - k)<h (p - 1 - k)
     ·have hl':cmpN (num 4294967296 f p) (num 4294967296 h p) = -1:=by
       unfold cmpN
       rw [if_pos (num_top_lt j0i3 j0i3 HF.out hl (fun i h1 h2=>HS.out i j0i3 h2))]
      have HL:=Lib.hid hl'
      clear hl' he
      go_wp2
      go_quiet (fail)
      go_wp2
      have hbl2:=Below.drewN_ hbl nq
      have hc3:(wr.drewN nq).cell? (ad.add (p - 1 - k))=some (.int .u32 (f (p - 1 - k):Nat)):=hc1
      have hc4:(wr.drewN nq).cell? (bd.add (p - 1 - k))=some (.int .u32 (h (p - 1 - k):Nat)):=hc2
      generalize wr.drewN nq=w2 at *
      clear hc1 hc2
      go_quiet ((go_at_call 133;exact Calls.quiet_of_same (sign_t _)))
      go_wp2
      go_ret
      exact⟨by rw [HL.out];rfl,Below.drewN_ hbl2 _⟩
     ·have hl':cmpN (num 4294967296 f p) (num 4294967296 h p)=1:=by
       have:=num_top_lt (f:=h) (h:=f) (n:=p) (j:=p - 1 - k) (B:=4294967296) j0i3 j0i3 HH.out j0i3 (fun i h1 h2=>(HS.out i j0i3 h2).symm)
       unfold cmpN
       rw [if_neg j0i3,if_neg j0i3]
      have HL:=Lib.hid hl'
      clear hl' he
      go_wp2
      go_quiet (fail)
      go_wp2
      have hbl2:=Below.drewN_ hbl nq
      have hc3:(wr.drewN nq).cell? (ad.add (p - 1 - k))=some (.int .u32 (f (p - 1 - k):Nat)):=hc1
      have hc4:(wr.drewN nq).cell? (bd.add (p - 1 - k))=some (.int .u32 (h (p - 1 - k):Nat)):=hc2
      generalize wr.drewN nq=w2 at *
      clear hc1 hc2
      go_quiet ((go_at_call 133;exact Calls.quiet_of_same (sign_f _)))
      go_wp2
      go_ret
      exact⟨by rw [HL.out];rfl,Below.drewN_ hbl2 _⟩
   ·have hl':cmpN (num 4294967296 f p) (num 4294967296 h p)=0:=by
     unfold cmpN
     have:=num_congr (B:=4294967296) (f:=f) (f':=h) p (fun j hj=>HS.out j j0i3 hj)
     rw [if_neg j0i3,if_pos this]
    have HL:=Lib.hid hl'
    clear hl'
    go_wp2
    go_ret
    exact⟨by rw [HL.out];rfl,hbl⟩
 ·have hg1:((p:Int) != (q:Int))=true:=by rw [bne_iff_ne];omega
  have hbr:=Below.refl w.heap.size w
  by_cases hl:p<q
  ·have hl':cmpN (num 4294967296 f (p)) (num 4294967296 h (q)) = -1:=by
    unfold cmpN
    rw [if_pos (num_len_lt j0i3 HF.out HHt.out hl)]
   have HL:=Lib.hid hl'
   clear hl' hne
   go_enter Tryz.func117,Tryz.ntmps117
   go_wp2_with fail
   refine(D1.out _ ha).mono ?_
   rintro e w' ⟨rfl,rfl⟩
   go_wp2_with fail
   refine(D2.out _ hb).mono ?_
   rintro e w' ⟨rfl,rfl⟩
   go_wp2_with fail
   refine(sign_t _).mono ?_
   rintro e w' ⟨rfl,rfl⟩
   go_wp2
   go_ret
   exact⟨by rw [HL.out];rfl,hbr⟩
  ·have hl':cmpN (num 4294967296 f (p)) (num 4294967296 h (q))=1:=by
    have:=num_len_lt (B:=4294967296) (f:=h) (h:=f) (n:=q) (m:=p) j0i3 HH.out HFt.out j0i3
    unfold cmpN
    rw [if_neg j0i3,if_neg j0i3]
   have HL:=Lib.hid hl'
   clear hl' hne
   go_enter Tryz.func117,Tryz.ntmps117
   go_wp2_with fail
   refine(D1.out _ ha).mono ?_
   rintro e w' ⟨rfl,rfl⟩
   go_wp2_with fail
   refine(D2.out _ hb).mono ?_
   rintro e w' ⟨rfl,rfl⟩
   go_wp2_with fail
   refine(sign_f _).mono ?_
   rintro e w' ⟨rfl,rfl⟩
   go_wp2
   go_ret
   exact⟨by rw [HL.out];rfl,hbr⟩
end Go.Proofs.YtgilnmhejjpleaaGreat
namespace Go.Proofs.YtgilnmhejjpleaaGreat
open Go.RowKit
def TimesInv(w wr:World)(g o sz k cy q:Nat)(f h f':Nat→Nat):Prop :=
 cy<4294967296∧Row .u32 117 wr g sz f'∧Wr g w wr∧(∀j,¬ (o≤j∧j<o+k)→f' j=f j)∧(∀j,j<k→f' (o+j)<4294967296)∧
  num 4294967296 (fun j=>f' (o+j)) k+cy*4294967296 ^ k=num 4294967296 (fun j=>f (o+j)) k+q*num 4294967296 h k
theorem mul_le_32 {a b:Nat}(ha:a<4294967296)(hb:b<4294967296):a*b≤18446744065119617025:=by
 have h1:a*b≤4294967295*4294967295:=Nat.mul_le_mul j0i3 j0i3
 omega
theorem mul_int_32 {a b:Nat}(ha:a<4294967296)(hb:b<4294967296):(a:Int)*(b:Int)≤18446744065119617025:=by
 rw [← Int.natCast_mul]
 have:=mul_le_32 ha hb
 omega
theorem mul_int_0(a b:Nat):0≤(a:Int)*(b:Int):=by
 rw [← Int.natCast_mul]
 omega
theorem TimesInv.step {w wr:World} {g o sz k cy q:Nat} {f h f':Nat→Nat}(hi:TimesInv w wr g o sz k cy q f h f')(hk:o+k<sz)(hf:f (o+k)<4294967296)(hh:h k<4294967296)(hq:q<4294967296)
 (x:Int) (hx:x=((cy+(f' (o+k)+h k*q)) % 4294967296:Nat)) (c':Nat) (hc':c'=(cy+(f' (o+k)+h k*q)) / 4294967296) :
 TimesInv w (wr.setCell ⟨g,o+k,none⟩ (.int .u32 x)) g o sz (k+1) c' q f h (upd f' (o+k) ((cy+(f' (o+k)+h k*q)) % 4294967296)):=by
 subst hx
 obtain⟨h1,h2,h3,h4,h5,h6⟩:=hi
 have e0:f' (o+k)=f (o+k):=h4 _ j0i3
 have hm:=mul_le_32 hh hq
 refine⟨by rw [e0] at hc';omega,h2.set_ _ _,h3.setCell _ _,fun j hj=>?_,fun j hj=>?_,?_⟩
 ·rw [upd_ne _ _ _ j0i3];exact h4 j j0i3
 ·by_cases hjk:j=k
  ·subst hjk;rw [upd_same];exact Nat.mod_lt _ j0i3
  ·rw [upd_ne _ _ _ j0i3];exact h5 j j0i3
 ·rw [num_succ,num_succ,num_succ,upd_same,num_congr (f':=fun j=>f' (o+j)) k (fun j hj=>upd_ne _ _ _ j0i3)]
  rw [e0] at hc' ⊢
  have hd:=Nat.div_add_mod (cy+(f (o+k)+h k*q)) 4294967296
  rw [← hc'] at hd
  generalize (cy+(f (o+k)+h k*q)) % 4294967296=r at *
  have e3:r*4294967296 ^ k+c'*4294967296 ^ (k+1)=(cy+(f (o+k)+h k*q))*4294967296 ^ k:=by
   rw [← hd,Nat.pow_succ,Nat.add_mul,Nat.add_comm]
   congr 1
   rw [Nat.mul_comm (4294967296 ^ k),← Nat.mul_assoc,Nat.mul_comm c']
  rw [Nat.add_mul,Nat.add_mul] at e3
  have e4:q*(num 4294967296 h k+h k*4294967296 ^ k)=q*num 4294967296 h k+h k*q*4294967296 ^ k:=by
   rw [Nat.mul_add,← Nat.mul_assoc,Nat.mul_comm q (h k)]
  rw [e4]
  omega
def TimesPost(w w':World)(e:Ending)(g o sz m q:Nat)(f h:Nat→Nat):Prop :=
 ∃cy f',e = .returned (.int .u32 (cy:Nat))∧TimesInv w w' g o sz m cy q f h f'
theorem TimesInv.drewN {w wr:World} {g o sz k cy q:Nat} {f h f':Nat→Nat}(hi:TimesInv w wr g o sz k cy q f h f')(n:Nat):TimesInv w (wr.drewN n) g o sz k cy q f h f':=by
 obtain⟨h1,h2,h3,h4⟩:=hi
 exact⟨h1,h2,⟨h3.os,h3.tape,h3.output,h3.size,h3.block⟩,h4⟩
set_option maxHeartbeats 1000000 in
theorem addTimes_any(g o n c:Nat)(B:Option Addr)(m d sz q:Nat)(f h:Nat→Nat)(w:World)(hrow:Row .u32 117 w g sz f)(hsz:o+n≤sz)(hmn:m≤n)(hq:q<4294967296)
 (hr:Rd .u32 w B m h) (hoff:0<m→Off B g) (hf : ∀j,j<m→f (o+j)<4294967296) (hh : ∀j,j<m→h j<4294967296) (hn:n≤4611686018427387904) :
 Calls Tryz.prog 130 #[.slice (some ⟨g,o,none⟩) n c,.slice B m d,.int .u32 (q:Nat)] w fun e w'=>TimesPost w w' e g o sz m q f h:=by
 go_enter Tryz.func130,Tryz.ntmps130
 go_wp2
 go_loopw [7,11] (fun v7 v11 wr => ∃k cy f',k≤m∧v7 = .int .u64 (cy:Nat)∧v11 = .int .i64 (k:Nat)∧TimesInv w wr g o sz k cy q f h f') (fun _ v11 _=>m - (intOf v11).toNat)
 case atStart=>exact⟨0,0,f,Nat.zero_le _,rfl,rfl,by omega,hrow,Wr.refl,fun _ _=>rfl,fun _ hj=>absurd hj j0i3,by simp [num]⟩
 case round =>
  obtain⟨k,cy,f',hk,rfl,rfl,hinv⟩:=hrel
  have HH:=Lib.hid hh
  have HF:=Lib.hid hf
  have HR:=Lib.hid hr
  have HO:=Lib.hid hoff
  clear hh hf hr hoff hrow
  have hcy:cy<4294967296:=hinv.1
  by_cases hlt:k<m
  ·obtain⟨ad,rfl,hcell⟩:=(HR.out.wr (HO.out j0i3) hinv.2.2.1) k hlt
   have hcell2:=hinv.2.1.cell (j:=o+k) j0i3
   have b0:f (o+k)<4294967296:=HF.out k hlt
   have b1:f' (o+k)<4294967296:=by rw [hinv.2.2.2.1 (o+k) j0i3];exact b0
   have b2:h k<4294967296:=HH.out k hlt
   have b3:(h k:Int)*(q:Int)≤18446744065119617025:=mul_int_32 b2 hq
   have b4:0≤(h k:Int)*(q:Int):=mul_int_0 _ _
   go_wp2
   go_quiet (fail)
   have hinv2:=hinv.drewN nq
   have hcell3:=hinv2.2.1.cell (j:=o+k) j0i3
   have hfz:=hinv2.2.1.frozen (o+k)
   generalize wr.drewN nq=w2 at *
   have HS:=Lib.hid (hinv2.step j0i3 b0 b2 hq _ rfl _ rfl)
   clear hinv hinv2 hcell hcell2
   go_wp2
   go_roundw
   case rel=>exact⟨k+1,_,_,by omega,rfl,by go_num,HS.out⟩
   case measure=>simp [intOf];omega
  ·obtain rfl:k=m:=by omega
   go_wp2
   go_ret
   exact⟨cy,f',rfl,hinv⟩
end Go.Proofs.YtgilnmhejjpleaaGreat
namespace Go.Proofs.YtgilnmhejjpleaaGreat
open Go.RowKit
def MulInv(w wr:World)(g p q k:Nat)(f h F:Nat→Nat):Prop :=
 Row .u32 117 wr g (p+q) F∧Wr g w wr∧(∀j,j<p+q→F j<4294967296)∧(∀j,k+q≤j→F j=0)∧num 4294967296 F (k+q)=num 4294967296 f k*num 4294967296 h q
theorem MulInv.step {w wr w2:World} {g p q k cy:Nat} {f h F F':Nat→Nat}(hi:MulInv w wr g p q k f h F)(ht:TimesInv wr w2 g k (p+q) q cy (f k) F h F') :
 MulInv w (w2.setCell ⟨g,k+q,none⟩ (.int .u32 (cy:Nat))) g p q (k+1) f h (upd F' (k+q) cy):=by
 obtain⟨h1,h2,h3,h4,h5⟩:=hi
 obtain⟨t1,t2,t3,t4,t5,t6⟩:=ht
 refine⟨t2.set_ _ _,(h2.trans t3).setCell _ _,fun j hj=>?_,fun j hj=>?_,?_⟩
 ·by_cases hjk:j=k+q
  ·subst hjk;rw [upd_same];exact t1
  ·rw [upd_ne _ _ _ hjk]
   by_cases hin:k≤j∧j<k+q
   ·have:=t5 (j - k) j0i3
    rwa [show k+(j - k)=j from j0i3] at this
   ·rw [t4 j hin];exact h3 j hj
 ·rw [upd_ne _ _ _ j0i3,t4 j j0i3];exact h4 j j0i3
 ·rw [show k+1+q=(k+q)+1 from by omega,num_succ,upd_same,num_upd _ _ (Nat.le_refl _),num_add,num_succ]
  rw [num_add] at h5
  have e1:num 4294967296 F' k=num 4294967296 F k:=num_congr k fun j hj=>t4 j j0i3
  rw [e1,Nat.add_mul,← h5,Nat.pow_add]
  generalize num 4294967296 (fun j=>F' (k+j)) q=X at *
  generalize num 4294967296 (fun j=>F (k+j)) q=Y at *
  generalize 4294967296 ^ q=T at *
  generalize 4294967296 ^ k=S at *
  have e2:S*(X+cy*T)=S*(Y+f k*num 4294967296 h q):=by rw [t6]
  rw [Nat.mul_add,Nat.mul_add] at e2
  have e3:cy*(S*T)=S*(cy*T):=by rw [← Nat.mul_assoc,← Nat.mul_assoc,Nat.mul_comm cy S]
  have e4:f k*S*num 4294967296 h q=S*(f k*num 4294967296 h q):=by rw [← Nat.mul_assoc,Nat.mul_comm (f k) S]
  rw [e3,e4]
  omega
theorem MulInv.drew {w wr:World} {g p q k:Nat} {f h F:Nat→Nat}(hi:MulInv w wr g p q k f h F):MulInv w wr.drew g p q k f h F:=by
 obtain⟨h1,h2,h3⟩:=hi
 exact⟨h1.drew,h2.drew,h3⟩
theorem isNat_nil(w:World):IsNat w (.slice none 0 0) 0 :=
 ⟨none,0,0,fun _=>0,rfl,Nat.le_refl _,Rd.zero,fun j hj=>absurd hj j0i3,.inl rfl,rfl⟩
set_option maxHeartbeats 1000000 in
theorem mul_zero(A:Option Addr)(n c:Nat)(f:Nat→Nat)(B:Option Addr)(m d:Nat)(h:Nat→Nat)(w:World)(ha:Rd .u32 w A n f)(hc:n≤c)(hn:n≤8796093022208)
 (hb:Rd .u32 w B m h) (hd:m≤d) (hm:m≤8796093022208) (h0:tlen f n=0∨tlen h m=0) :
 Calls Tryz.prog 111 #[.slice A n c,.slice B m d] w fun e w'=>NatPost w w' e (num 4294967296 f n*num 4294967296 h m):=by
 have hN:num 4294967296 f n*num 4294967296 h m=0:=by
  rcases h0 with h0 | h0
  ·rw [(tlen_zero_iff j0i3).1 h0,Nat.zero_mul]
  ·rw [(tlen_zero_iff j0i3).1 h0,Nat.mul_zero]
 rw [hN]
 have C1:=fun w' hr'=>cut_any A n c f w' hr' hc j0i3
 have C2:=fun w' hr'=>cut_any B m d h w' hr' hd j0i3
 have D1:=Lib.hid C1
 have D2:=Lib.hid C2
 clear C1 C2 hN
 have hq:tlen h m≤m:=tlen_le m
 generalize tlen h m=q at *
 generalize tlen f n=p at *
 by_cases hp:p=0
 ·subst hp
  have hg1:(((0:Nat):Int) == 0)=true := jpu1
  clear h0
  go_enter Tryz.func111,Tryz.ntmps111
  go_wp2_with fail
  refine(D1.out _ ha).mono ?_
  rintro e w' ⟨rfl,rfl⟩
  go_wp2_with fail
  refine(D2.out _ hb).mono ?_
  rintro e w' ⟨rfl,rfl⟩
  go_wp2
  go_ret
  exact⟨_,rfl,isNat_nil _,Below.refl _ _⟩
 ·obtain rfl:q=0:=by omega
  have hg1:((p:Int) == 0)=false := jyif
  have hg2:(((0:Nat):Int) == 0)=true := jpu1
  clear h0 hp
  go_enter Tryz.func111,Tryz.ntmps111
  go_wp2_with fail
  refine(D1.out _ ha).mono ?_
  rintro e w' ⟨rfl,rfl⟩
  go_wp2_with fail
  refine(D2.out _ hb).mono ?_
  rintro e w' ⟨rfl,rfl⟩
  go_wp2
  go_ret
  exact⟨_,rfl,isNat_nil _,Below.refl _ _⟩
set_option maxHeartbeats 2000000 in
theorem mul_pos(A:Option Addr)(n c:Nat)(f:Nat→Nat)(B:Option Addr)(m d:Nat)(h:Nat→Nat)(w:World)(ha:Rd .u32 w A n f)(hc:n≤c)(hn:n≤8796093022208)(hf : ∀j,j<n→f j<4294967296)
 (hb:Rd .u32 w B m h) (hd:m≤d) (hm:m≤8796093022208) (hh : ∀j,j<m→h j<4294967296) (hp:0<tlen f n) (hq:0<tlen h m) :
 Calls Tryz.prog 111 #[.slice A n c,.slice B m d] w fun e w'=>NatPost w w' e (num 4294967296 f n*num 4294967296 h m):=by
 rw [← num_tlen (f:=f) n,← num_tlen (f:=h) m]
 have C1:=fun w' hr'=>cut_any A n c f w' hr' hc j0i3
 have C2:=fun w' hr'=>cut_any B m d h w' hr' hd j0i3
 have D1:=Lib.hid C1
 have D2:=Lib.hid C2
 have hpn:=tlen_le (f:=f) n
 have hqm:=tlen_le (f:=h) m
 have HF:=Lib.hid (tlen_lt_dig hf)
 have HH:=Lib.hid (tlen_lt_dig hh)
 clear C1 C2 hf hh
 generalize tlen h m=q at *
 generalize tlen f n=p at *
 have hg1:((p:Int) == 0)=false := jyif
 have hg2:((q:Int) == 0)=false := jyif
 go_enter Tryz.func111,Tryz.ntmps111
 go_wp2_with fail
 refine(D1.out _ ha).mono ?_
 rintro e w' ⟨rfl,rfl⟩
 go_wp2_with fail
 refine(D2.out _ hb).mono ?_
 rintro e w' ⟨rfl,rfl⟩
 clear D1 D2
 go_wp2_with (at_make;refine wpList_make_row rfl _ _ 32 rfl .u32 117 Tryz.underlying32 4 u32_info j0i3 .i64 .i64 _ _ (p+q) rfl rfl j0i3 j0i3 j0i3 ?_;intro w1 hrow1 hb1 hs1)
 have HA:=Lib.hid ((ha.below hb1).less hpn)
 have HB:=Lib.hid ((hb.below hb1).less hqm)
 have HOA:Hid (Off A w.heap.size):=(ha.less hpn).off_lt hp (Nat.le_refl _)
 have HOB:Hid (Off B w.heap.size):=(hb.less hqm).off_lt hq (Nat.le_refl _)
 clear ha hb
 go_loopw [27] (fun v27 wr => ∃k F,k≤p∧v27 = .int .i64 (k:Nat)∧MulInv w1 wr w.heap.size p q k f h F) (fun v27 _=>p - (intOf v27).toNat)
 case atStart=>exact⟨0,_,Nat.zero_le _,rfl,hrow1,Wr.refl,fun _ _=>by omega,fun _ _=>rfl,by rw [num_zeros _ (fun _ _=>rfl)];simp [num]⟩
 case round =>
  obtain⟨k,F,hk,rfl,hinv⟩:=hrel
  clear hrow1
  by_cases hlt:k<p
  ·obtain⟨ad,rfl,hcell⟩:=(HA.out.wr HOA.out hinv.2.1) k hlt
   have b1:f k<4294967296:=HF.out k hlt
   have hsl : ∀w':World,(Instr.slice 32 (.slice (some ⟨w.heap.size,0,none⟩) (p+q) (p+q)) (some (.int .i64 (k:Int))) (some (.int .i64 ((k:Int)+(q:Int)))) none).run Tryz.prog w' = .ok (.slice (some ⟨w.heap.size,k,none⟩) q (p+q - k)) w':=fun w'=>by
    have:=sl22_lh w.heap.size 0 (p+q) (p+q) k (k+q) j0i3 j0i3 j0i3 w'
    rw [Nat.zero_add,Nat.add_sub_cancel_left] at this
    exact this
   have D:Hid (∀w',Row .u32 117 w' w.heap.size (p+q) F→Rd .u32 w' B q h→Calls Tryz.prog 130 #[.slice (some ⟨w.heap.size,k,none⟩) q (p+q - k),.slice B q d,.int .u32 (f k:Nat)] w' fun e w2=>TimesPost w' w2 e w.heap.size k (p+q) q (f k) F h) :=
    fun w' r1 r2=>addTimes_any w.heap.size k q (p+q - k) B q d (p+q) (f k) F h w' r1 j0i3 (Nat.le_refl _) b1 r2 (fun _=>HOB.out) (fun j hj=>hinv.2.2.1 _ j0i3) HH.out j0i3
   have R1:=Lib.hid hinv.1
   have R2:=Lib.hid (HB.out.wr HOB.out hinv.2.1)
   have HI:=Lib.hid hinv
   have hpq:k+q<p+q := j0i3
   have hi0:(0:Int)≤(k:Int)+(q:Int) := j0i3
   have htn:((k:Int)+(q:Int)).toNat=k+q := j0i3
   have hwr:IntKind.i64.wrap ((k:Int)+(q:Int))=(k:Int)+(q:Int):=IntWalk.i64_in _ j0i3
   clear hinv
   go_wp2
   go_region_with (go_at_call 130;refine(D.out (World.drew wr) R1.out.drew R2.out.drew).mono ?_;rintro e w2 ⟨cy,F2,rfl,hti⟩;have hcell4:=hti.2.1.cell (j:=k+q) j0i3;have hfz:=hti.2.1.frozen (k+q))
   all_goals
    have HS:=Lib.hid (HI.out.drew.step hti)
    clear hti
    go_wp2
    go_roundw
    case rel=>exact⟨k+1,_,by omega,by go_num,HS.out⟩
    case measure=>simp [intOf];omega
  ·obtain rfl:k=p:=by omega
   have hrd:=hinv.1.rd0 (Nat.le_refl _)
   have q1:IsNat wr (.slice (some ⟨w.heap.size,0,none⟩) (tlen F (k+q)) (k+q)) (num 4294967296 f k*num 4294967296 h q) :=
    isNat_row hinv.1 (Nat.le_refl _) (Nat.le_refl _) hinv.2.2.1 hinv.2.2.2.2
   have q2:Below w.heap.size w wr:=hinv.2.1.below hb1 hb1.size (Nat.le_refl _)
   clear hinv
   go_wp2_with fail
   refine(cut_any _ (k+q) (k+q) _ _ hrd (Nat.le_refl _) j0i3).mono ?_
   rintro e w' ⟨rfl,rfl⟩
   go_wp2
   go_ret
   exact⟨_,rfl,q1,q2⟩
theorem mul_any(A:Option Addr)(n c:Nat)(f:Nat→Nat)(B:Option Addr)(m d:Nat)(h:Nat→Nat)(w:World)(ha:Rd .u32 w A n f)(hc:n≤c)(hn:n≤8796093022208)(hf : ∀j,j<n→f j<4294967296)
 (hb:Rd .u32 w B m h) (hd:m≤d) (hm:m≤8796093022208) (hh : ∀j,j<m→h j<4294967296) :
 Calls Tryz.prog 111 #[.slice A n c,.slice B m d] w fun e w'=>NatPost w w' e (num 4294967296 f n*num 4294967296 h m):=by
 by_cases h0:tlen f n=0∨tlen h m=0
 ·exact mul_zero A n c f B m d h w ha hc hn hb hd hm h0
 ·exact mul_pos A n c f B m d h w ha hc hn hf hb hd hm hh j0i3 j0i3
end Go.Proofs.YtgilnmhejjpleaaGreat
namespace Go.Proofs.YtgilnmhejjpleaaGreat
open Go.RowKit
def ShortInv(w wr:World)(g o n sz k rest d:Nat)(f f':Nat→Nat):Prop :=
 rest<d∧Row .u32 117 wr g sz f'∧Wr g w wr∧(∀j,¬ (o+(n - k)≤j∧j<o+n)→f' j=f j)∧(∀j,o+(n - k)≤j→j<o+n→f' j<4294967296)∧
  num 4294967296 (fun j=>f' (o+(n - k)+j)) k*d+rest=num 4294967296 (fun j=>f (o+(n - k)+j)) k
theorem or_shift32(r a:Nat)(hr:r<4294967296)(ha:a<4294967296):bits BinOp.or IntKind.u64 ((r:Int)*4294967296) (a:Int)=((r*4294967296+a:Nat):Int):=by
 have e:(4294967296:Nat)=2 ^ 32 := jpu1
 rw [show((r:Int)*4294967296)=((r*4294967296:Nat):Int) from by omega,u64_or_nat _ _ j0i3 j0i3]
 congr 1
 rw [e,Nat.mul_comm]
 exact(Nat.two_pow_add_eq_or_of_lt (by rw [← e];exact ha) r).symm
theorem ShortInv.step {w wr:World} {g o n sz k rest d:Nat} {f f':Nat→Nat}(hi:ShortInv w wr g o n sz k rest d f f')(hk:k<n)(hd:d<4294967296)(hf:f (o+(n - 1 - k))<4294967296)
 (x:Int) (hx:x=((rest*4294967296+f' (o+(n - 1 - k))) / d:Nat)) (r':Nat) (hr':r'=(rest*4294967296+f' (o+(n - 1 - k))) % d) :
 ShortInv w (wr.setCell ⟨g,o+(n - 1 - k),none⟩ (.int .u32 x)) g o n sz (k+1) r' d f (upd f' (o+(n - 1 - k)) ((rest*4294967296+f' (o+(n - 1 - k))) / d)):=by
 subst hx
 obtain⟨h1,h2,h3,h4,h5,h6⟩:=hi
 have e0:f' (o+(n - 1 - k))=f (o+(n - 1 - k)):=h4 _ j0i3
 have hlt:(rest*4294967296+f' (o+(n - 1 - k))) / d<4294967296:=by
  rw [Nat.div_lt_iff_lt_mul j0i3,e0]
  have:(rest+1)*4294967296≤d*4294967296:=Nat.mul_le_mul_right _ h1
  rw [Nat.mul_comm]
  omega
 refine⟨by rw [hr'];exact Nat.mod_lt _ j0i3,h2.set_ _ _,h3.setCell _ _,fun j hj=>?_,fun j hj hj'=>?_,?_⟩
 ·rw [upd_ne _ _ _ j0i3];exact h4 j j0i3
 ·by_cases hjk:j=o+(n - 1 - k)
  ·subst hjk;rw [upd_same];exact hlt
  ·rw [upd_ne _ _ _ j0i3];exact h5 j j0i3 hj'
 ·have hdm:=Nat.div_add_mod (rest*4294967296+f' (o+(n - 1 - k))) d
  rw [← hr'] at hdm
  rw [show o+(n - (k+1))=o+(n - 1 - k) from by omega,Nat.add_comm k 1,num_add,num_add]
  have e1:num 4294967296 (fun j=>upd f' (o+(n - 1 - k)) ((rest*4294967296+f' (o+(n - 1 - k))) / d) (o+(n - 1 - k)+(1+j))) k=num 4294967296 (fun j=>f' (o+(n - k)+j)) k :=
   num_congr k fun j hj=>by rw [upd_ne _ _ _ j0i3,show o+(n - 1 - k)+(1+j)=o+(n - k)+j from j0i3]
  have e2:num 4294967296 (fun j=>f (o+(n - 1 - k)+(1+j))) k=num 4294967296 (fun j=>f (o+(n - k)+j)) k :=
   num_congr k fun j hj=>by rw [show o+(n - 1 - k)+(1+j)=o+(n - k)+j from j0i3]
  rw [e1,e2,← h6]
  simp only [num,Nat.pow_zero,Nat.mul_one,Nat.zero_add,Nat.add_zero,upd_same,Nat.pow_one]
  rw [← e0]
  generalize (rest*4294967296+f' (o+(n - 1 - k))) / d=Q at *
  generalize num 4294967296 (fun j=>f' (o+(n - k)+j)) k=X at *
  rw [Nat.add_mul,Nat.mul_add,Nat.mul_assoc]
  rw [Nat.mul_comm d Q] at hdm
  omega
set_option maxHeartbeats 1000000 in
theorem divShort_any(g o n c sz d:Nat)(f:Nat→Nat)(w:World)(hrow:Row .u32 117 w g sz f)(hsz:o+n≤sz)(hd0:0<d)(hd:d<4294967296)
 (hf : ∀j,j<n→f (o+j)<4294967296) (hn:n≤4611686018427387904) :
 Calls Tryz.prog 145 #[.slice (some ⟨g,o,none⟩) n c,.int .u32 (d:Nat)] w fun e w' => ∃rest f',e = .returned (.int .u32 (rest:Nat))∧ShortInv w w' g o n sz n rest d f f':=by
 go_enter Tryz.func145,Tryz.ntmps145
 go_wp2
 go_loopw [5,10] (fun v5 v10 wr => ∃k rest f',k≤n∧v5 = .int .u64 (rest:Nat)∧v10 = .int .i64 (k:Nat)∧ShortInv w wr g o n sz k rest d f f') (fun _ v10 _=>n - (intOf v10).toNat)
 case atStart=>exact⟨0,0,f,Nat.zero_le _,rfl,rfl,hd0,hrow,Wr.refl,fun _ _=>rfl,fun _ h1 h2=>absurd h1 j0i3,by simp [num]⟩
 case round =>
  obtain⟨k,rest,f',hk,rfl,rfl,hinv⟩:=hrel
  have HF:=Lib.hid hf
  clear hf hrow
  by_cases hlt:k<n
  ·have hrd:rest<d:=hinv.1
   have hcell:=hinv.2.1.cell (j:=o+(n - 1 - k)) j0i3
   have hfz:=hinv.2.1.frozen (o+(n - 1 - k))
   have b1:f' (o+(n - 1 - k))<4294967296:=by rw [hinv.2.2.2.1 _ j0i3];exact HF.out _ j0i3
   have hor:=or_shift32 rest (f' (o+(n - 1 - k))) j0i3 b1
   have HS:=fun x hx r' hr'=>hinv.step hlt hd (HF.out _ j0i3) x hx r' hr'
   have hlt2:(rest*4294967296+f' (o+(n - 1 - k))) / d<4294967296:=by
    rw [Nat.div_lt_iff_lt_mul hd0]
    have:(rest+1)*4294967296≤d*4294967296:=Nat.mul_le_mul_right _ hrd
    rw [Nat.mul_comm]
    omega
   generalize rest*4294967296+f' (o+(n - 1 - k))=N at *
   have hmd:N % d<d:=Nat.mod_lt _ hd0
   have HS':=HS _ rfl _ rfl
   have g1:(N:Int) / (d:Int)=((N / d:Nat):Int):=rfl
   have g2:(N:Int) % (d:Int)=((N % d:Nat):Int):=rfl
   generalize N / d=q at *
   generalize N % d=r at *
   have HS2:=Lib.hid HS'
   clear HS HS' hinv
   go_wp2
   go_roundw
   case rel=>exact⟨k+1,r,_,by omega,by first | rw [g2] | rfl,by go_num,HS2.out⟩
   case measure=>simp [intOf];omega
  ·obtain rfl:k=n:=by omega
   have hrd:rest<d:=hinv.1
   go_wp2
   go_ret
   exact⟨rest,f',rfl,hinv⟩
end Go.Proofs.YtgilnmhejjpleaaGreat
namespace Go.Proofs.YtgilnmhejjpleaaGreat
open Go.RowKit
def limbOf(f:Nat→Nat)(n i:Nat):Nat:=if i<n then f i else 0
theorem limbOf_lt {f:Nat→Nat} {n:Nat}(hf : ∀j,j<n→f j<4294967296)(i:Nat):limbOf f n i<4294967296:=by
 unfold limbOf;split
 ·exact hf _ ‹_›
 ·omega
set_option maxHeartbeats 400000 in
theorem limb_any(A:Option Addr)(n c i:Nat)(f:Nat→Nat)(w:World)(hr:Rd .u32 w A n f)(hf : ∀j,j<n→f j<4294967296) :
 Calls Tryz.prog 144 #[.slice A n c,.int .i64 (i:Nat)] w fun e w'=>e = .returned (.int .u64 (limbOf f n i:Nat))∧w'=w:=by
 by_cases h:i<n
 ·obtain⟨ad,rfl,hcell⟩:=hr i h
  have hb:=hf i h
  have e:limbOf f n i=f i:=by unfold limbOf;rw [if_pos h]
  rw [e]
  clear hf hr e
  go_enter Tryz.func144,Tryz.ntmps144
  go_wp2
  go_ret
  exact⟨rfl,rfl⟩
 ·have e:limbOf f n i=0:=by unfold limbOf;rw [if_neg h]
  rw [e]
  clear hf hr e
  go_enter Tryz.func144,Tryz.ntmps144
  go_wp2
  go_ret
  exact⟨rfl,rfl⟩
theorem or_high32(a b:Nat)(ha:a<4294967296)(hb:b<4294967296):bits BinOp.or IntKind.u64 (a:Int) ((b:Int)*4294967296)=((a+b*4294967296:Nat):Int):=by
 have e:(4294967296:Nat)=2 ^ 32 := jpu1
 rw [show((b:Int)*4294967296)=((b*4294967296:Nat):Int) from by omega,u64_or_nat _ _ j0i3 j0i3]
 congr 1
 rw [Nat.or_comm,Nat.add_comm,e,Nat.mul_comm]
 exact(Nat.two_pow_add_eq_or_of_lt (by rw [← e];exact ha) b).symm
theorem num_two {f:Nat→Nat} {n:Nat}(hn:n≤2):num 4294967296 f n=limbOf f n 0+limbOf f n 1*4294967296:=by
 have:n=0∨n=1∨n=2 := j0i3
 rcases this with rfl | rfl | rfl <;> simp [num,limbOf]
set_option maxHeartbeats 400000 in
theorem word_any(A:Option Addr)(n c:Nat)(f:Nat→Nat)(w:World)(hr:Rd .u32 w A n f)(hf : ∀j,j<n→f j<4294967296)(hn:n≤2) :
 Calls Tryz.prog 138 #[.slice A n c] w fun e w'=>e = .returned (.int .u64 (num 4294967296 f n:Nat))∧w'=w:=by
 have h0:=limbOf_lt hf 0
 have h1:=limbOf_lt hf 1
 have hor:=or_high32 _ _ h0 h1
 rw [num_two hn]
 have d0:Calls Tryz.prog 144 #[.slice A n c,.int .i64 0] w fun e w'=>e = .returned (.int .u64 (limbOf f n 0:Nat))∧w'=w:=limb_any A n c 0 f w hr hf
 have d1:Calls Tryz.prog 144 #[.slice A n c,.int .i64 1] w fun e w'=>e = .returned (.int .u64 (limbOf f n 1:Nat))∧w'=w:=limb_any A n c 1 f w hr hf
 have D0:=Lib.hid d0
 have D1:=Lib.hid d1
 clear hr hf d0 d1
 generalize limbOf f n 0=x at *
 generalize limbOf f n 1=y at *
 have hN:(x:Int)+(y:Int)*4294967296=((x+y*4294967296:Nat):Int) := j0i3
 rw [← hN] at hor ⊢
 clear hN
 go_enter Tryz.func138,Tryz.ntmps138
 go_wp2_with fail
 refine D0.out.mono ?_
 rintro e w' ⟨rfl,rfl⟩
 go_wp2_with fail
 refine D1.out.mono ?_
 rintro e w' ⟨rfl,rfl⟩
 go_wp2
 go_ret
 exact⟨rfl,rfl⟩
theorem row_new {K:IntKind} {t:TypeId}(w:World)(cs:Array Value)(n:Nat)(f:Nat→Nat)(hn:cs.size=n)(h : ∀j,j<n→cs[j]? = some (.int K (f j:Nat))):Row K t (w.alloc (.cells cs t)) w.heap.size n f :=
 ⟨cs,heap_alloc_new w _,hn,h⟩
def two(x y:Nat):Nat→Nat:=fun j=>if j=0 then x else y
theorem row_two {K:IntKind} {t:TypeId}(w:World)(x y:Nat):Row K t (w.alloc (.cells #[.int K (x:Nat),.int K (y:Nat)] t)) w.heap.size 2 (two x y) :=
 row_new w _ 2 _ rfl fun j hj=>by
  have:j=0∨j=1 := j0i3
  rcases this with rfl | rfl <;> rfl
theorem row_one {K:IntKind} {t:TypeId}(w:World)(x:Nat):Row K t (w.alloc (.cells #[.int K (x:Nat)] t)) w.heap.size 1 (fun _=>x) :=
 row_new w _ 1 _ rfl fun j hj=>by
  obtain rfl:j=0 := j0i3
  rfl
theorem below_new(w:World)(o:Obj):Below w.heap.size w (w.alloc o):=(Below.refl _ _).alloc (Nat.le_refl _) _
theorem cut_one(x:Nat)(w:World)(hx:x<4294967296)(g:Nat)(hg:g=w.heap.size) :
 Calls Tryz.prog 121 #[.slice (some ⟨g,0,none⟩) 1 1] (w.alloc (.cells #[.int .u32 (x:Nat)] 117)) fun e w'=>NatPost w w' e x:=by
 subst hg
 have hrow:Row .u32 117 (w.alloc (.cells #[.int .u32 (x:Nat)] 117)) w.heap.size 1 (fun _=>x):=row_one w x
 refine(cut_any _ 1 1 _ _ (hrow.rd0 (Nat.le_refl _)) (Nat.le_refl _) j0i3).mono ?_
 rintro e w' ⟨rfl,rfl⟩
 exact⟨_,rfl,isNat_row hrow (Nat.le_refl _) (Nat.le_refl _) (fun _ _=>hx) (by simp [num]),below_new _ _⟩
set_option maxHeartbeats 400000 in
theorem ofWord_any(N:Nat)(w:World)(hN:(N:Int)≤18446744073709551615) :
 Calls Tryz.prog 136 #[.int .u64 (N:Nat)] w fun e w'=>NatPost w w' e N:=by
 go_enter Tryz.func136,Tryz.ntmps136
 go_wp2_with fail
 have hrow:Row .u32 117 (w.alloc (.cells #[.int .u32 (N % 4294967296:Nat),.int .u32 (N / 4294967296:Nat)] 117)) w.heap.size 2 (two (N % 4294967296) (N / 4294967296)):=row_two w _ _
 have q:=isNat_row hrow (N:=N) (Nat.le_refl _) (Nat.le_refl _) (fun j hj=>by unfold two;split <;> omega) (by simp [num,two];omega)
 have hrd:=hrow.rd0 (Nat.le_refl _)
 have hb:=below_new w (.cells #[.int .u32 (N % 4294967296:Nat),.int .u32 (N / 4294967296:Nat)] 117)
 refine(cut_any _ 2 2 _ _ hrd (Nat.le_refl _) j0i3).mono ?_
 rintro e w' ⟨rfl,rfl⟩
 go_wp2
 go_ret
 exact⟨_,rfl,q,hb⟩
end Go.Proofs.YtgilnmhejjpleaaGreat
