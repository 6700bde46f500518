/- Contracts of whole: Of, word, Small. -/
import Derived.Test.YtgilnmhejjpleaaGreatPWd
import Derived.Below
import Derived.Laws.World
import Derived.Laws.Rows
import Derived.Laws.NewBlocks
import Derived.Deep.RegionHeld
import Derived.RowKit
namespace Go.Proofs.YtgilnmhejjpleaaGreat
open Go.RowKit
attribute [local go_sem ↓] Go.wp_at_zero Go.wp_at_succ
theorem jn6w {P:Prop}(h:P:=by show _ < _; omega):P:=h
theorem juit {P:Prop}(h:P:=by rw [hc2 _ _ hz1_0, hc1 _ _ jb6b]; simp):P:=h
theorem wrap_u64_neg {N:Nat}(h0:0<N)(h:(N:Int)≤9223372036854775808):IntKind.u64.wrap (-(N:Int))=18446744073709551616 - N:=by rw [IntKind.wrap_u64];omega
theorem wrap_u64_neg' {N:Nat}(h0:0<N)(h:(N:Int)≤9223372036854775808):IntKind.u64.wrap (-(18446744073709551616 - (N:Int)))=N:=by rw [IntKind.wrap_u64];omega
theorem lim_lit_word(w:World)(g:Nat)(hg:g=w.heap.size)(N:Nat)(hN:N<18446744073709551616):Lim 2 (w.alloc (.cells #[.int .u32 ((N:Int) % 4294967296),.int .u32 ((N:Int) / 4294967296)] 117)) (.slice (some ⟨g,0,none⟩) 2 2) N:=by
 have:=lit_two w g hg (N % 4294967296) (N / 4294967296) ((N:Int) % 4294967296) ((N:Int) / 4294967296) j0i3 j0i3 j0i3 j0i3
 rwa [show N % 4294967296+N / 4294967296*4294967296=N from j0i3] at this
set_option maxHeartbeats 1000000 in
theorem of_pos(N:Nat)(w:World)(h:(N:Int)≤9223372036854775807):Calls Tryz.prog 66 #[.int .i64 (N:Nat)] w fun e w'=>IntPost w w' e (sg false N):=by
 have hg:decide ((N:Int)<0)=false:=decide_eq_false j0i3
 have HN:Hid (N<18446744073709551616) := jn6w
 have hs0:w.heap.size<w.heap.size+1+1 := j0i3
 go_enter Tryz.func66,Tryz.ntmps66
 go_wp2_with fail
 refine Calls.mono (lim_trim (lim_lit_word _ _ jupy N HN.out) j0i3) ?_
 rintro e w1 ⟨v1,rfl,h1,hb1⟩
 obtain⟨A1,n1,c1,rfl,hn1,h1⟩:=isNat_form h1
 obtain⟨hc1,hf1⟩:=bcell hb1
 have hz1_0:w.heap.size<w1.heap.size := jccs
 go_wp2_with fail
 refine Calls.mono (signed_any false _ _ _ _ _ h1 hn1) ?_
 rintro e w2 ⟨v2,rfl,⟨m2,rfl,h2⟩,hb2⟩
 obtain⟨A2,n2,c2,rfl,hn2,h2⟩:=isNat_form h2
 obtain⟨hc2,hf2⟩:=bcell hb2
 have hz2_0:w.heap.size<w2.heap.size := j54r
 have x0:w2.cell? ⟨w.heap.size,0,none⟩=some (.bool false) := juit
 have x1:w2.cell? ⟨w.heap.size,1,none⟩=some (.slice none 0 0) := juit
 have B2:Below w.heap.size w w2:=((((Below.refl _ _).alloc (Nat.le_refl _) _).alloc jupy _).trans (hb1.mono jb6b)).trans (hb2.mono j0i3)
 have HE:=Lib.hid (int_end (w:=w) (g:=w.heap.size) B2 j0i3 x0 x1 h2 rfl)
 have hr1:=first_cell x0
 have hr2:=second_cell x1
 clear h1 h2 hn1 hn2
 go_wp2
 exact bodyPost_ret (v := .agg #[.bool (decide (sg false N<0)),.slice A2 n2 c2]) (by simp [results,Tryz.results66,go_sem,hr1,hr2]) rfl HE.out
set_option maxHeartbeats 1000000 in
theorem of_neg(N:Nat)(w:World)(h0:0<N)(h:(N:Int)≤9223372036854775808):Calls Tryz.prog 66 #[.int .i64 (-(N:Nat))] w fun e w'=>IntPost w w' e (sg true N):=by
 have hg:decide (-(N:Int)<0)=true:=decide_eq_true j0i3
 have HN:Hid (N<18446744073709551616) := jn6w
 have hw1:=wrap_u64_neg h0 h
 have hw2:=wrap_u64_neg' h0 h
 have hs0:w.heap.size<w.heap.size+1+1 := j0i3
 go_enter Tryz.func66,Tryz.ntmps66
 go_wp2_with fail
 refine Calls.mono (lim_trim (lim_lit_word _ _ jupy N HN.out) j0i3) ?_
 rintro e w1 ⟨v1,rfl,h1,hb1⟩
 obtain⟨A1,n1,c1,rfl,hn1,h1⟩:=isNat_form h1
 obtain⟨hc1,hf1⟩:=bcell hb1
 have hz1_0:w.heap.size<w1.heap.size := jccs
 go_wp2_with fail
 refine Calls.mono (signed_any true _ _ _ _ _ h1 hn1) ?_
 rintro e w2 ⟨v2,rfl,⟨m2,rfl,h2⟩,hb2⟩
 obtain⟨A2,n2,c2,rfl,hn2,h2⟩:=isNat_form h2
 obtain⟨hc2,hf2⟩:=bcell hb2
 have hz2_0:w.heap.size<w2.heap.size := j54r
 have x0:w2.cell? ⟨w.heap.size,0,none⟩=some (.bool false) := juit
 have x1:w2.cell? ⟨w.heap.size,1,none⟩=some (.slice none 0 0) := juit
 have B2:Below w.heap.size w w2:=((((Below.refl _ _).alloc (Nat.le_refl _) _).alloc jupy _).trans (hb1.mono jb6b)).trans (hb2.mono j0i3)
 have HE:=Lib.hid (int_end (w:=w) (g:=w.heap.size) B2 j0i3 x0 x1 h2 rfl)
 have hr1:=first_cell x0
 have hr2:=second_cell x1
 clear h1 h2 hn1 hn2
 go_wp2
 exact bodyPost_ret (v := .agg #[.bool (decide (sg true N<0)),.slice A2 n2 c2]) (by simp [results,Tryz.results66,go_sem,hr1,hr2]) rfl HE.out
theorem of_any(n:Int)(w:World)(h1 : -9223372036854775808≤n)(h2:n≤9223372036854775807):Calls Tryz.prog 66 #[.int .i64 n] w fun e w'=>IntPost w w' e n:=by
 by_cases hn:0≤n
 ·obtain⟨N,rfl⟩:=Int.eq_ofNat_of_zero_le hn
  exact of_pos N w h2
 ·obtain⟨N,hN⟩:=Int.eq_ofNat_of_zero_le (show 0≤ -n by omega)
  obtain rfl:n = -(N:Int) := j0i3
  exact of_neg N w j0i3 j0i3
theorem or_zero64(x:Nat)(h:x<4294967296):bits BinOp.or IntKind.u64 0 (x:Int)=(x:Int):=by
 rw [show(0:Int)=((0:Nat):Int) from rfl,u64_or_nat _ _ j0i3 j0i3,Nat.zero_or]
theorem num_top_zero {B:Nat} {f:Nat→Nat} : ∀i k,k≤i→(∀j,k≤j→j<i→f j=0)→num B f i=num B f k
 | 0,k,h,_=>by obtain rfl:k=0:=by omega
               rfl
 |i+1,k,h,hz=>by
  by_cases hk:k=i+1
  ·subst hk;rfl
  ·rw [num_succ,hz i j0i3 j0i3,num_top_zero i k j0i3 (fun j h1 h2=>hz j h1 j0i3)];simp
def WordInv(f:Nat→Nat)(i N:Nat):Prop:=N=num 4294967296 f (min i 2)∧∀j,2≤j→j<i→f j=0
def Two(n:Nat)(f:Nat→Nat):Prop := ∀j,2≤j→j<n→f j=0
def WordPost(w w':World)(e:Ending)(n:Nat)(f:Nat→Nat):Prop:=((Two n f→e = .returned (.tuple #[.int .u64 (num 4294967296 f n:Nat),.bool true]))∧(¬Two n f→e = .returned (.tuple #[.int .u64 0,.bool false])))∧w'=w
set_option maxHeartbeats 2000000 in
theorem wword_any(A:Option Addr)(n c:Nat)(f:Nat→Nat)(w:World)(ha:Rd .u32 w A n f)(hf : ∀j,j<n→f j<4294967296)(hn:n≤1000000) :
 Calls Tryz.prog 141 #[.slice A n c] w fun e w'=>WordPost w w' e n f:=by
 have HA:=Lib.hid ha
 have HF:=Lib.hid hf
 clear ha hf
 go_enter Tryz.func141,Tryz.ntmps141
 go_wp2
 go_loop [4,9] (fun v4 v9 => ∃i N:Nat,i≤n∧v9 = .int .i64 i∧v4 = .int .u64 N∧WordInv f i N) (fun _ v9=>n - (intOf v9).toNat)
 case atStart=>exact⟨0,0,Nat.zero_le _,rfl,rfl,rfl,fun j h1 h2=>absurd h2 j0i3⟩
 case round =>
  obtain⟨i,N,hi,rfl,rfl,hinv⟩:=hrel
  have HI:=Lib.hid hinv
  clear hinv
  by_cases hlt:i<n
  ·obtain⟨ad,rfl,hcell⟩:=HA.out i hlt
   have hfi:=HF.out i hlt
   by_cases h2:i<2
   ·have h01:i=0∨i=1:=by omega
    rcases h01 with rfl | rfl
    ·have hN:N=0:=HI.out.1
     subst hN
     have hor:=or_zero64 (f 0) hfi
     have hcell0:w.cell? ad=some (.int .u32 (f 0:Nat)):=hcell
     have HJ:Hid (WordInv f 1 (f 0)):=⟨by simp [num],fun j h1 h2=>absurd h2 j0i3⟩
     go_wp2
     go_round
     case rel=>exact⟨1,f 0,by omega,by go_num,rfl,HJ.out⟩
     case measure=>simp [intOf];omega
    ·have hN:N=f 0:=by have:=HI.out.1;simpa [num] using this
     subst hN
     have hf0:=HF.out 0 j0i3
     have hor:=or_high32 (f 0) (f 1) hf0 hfi
     have hcell1:=hcell
     simp [Addr.add] at hcell1
     have HJ:Hid (WordInv f 2 (f 0+f 1*4294967296)):=⟨by simp [num],fun j h1 h2=>absurd h2 j0i3⟩
     go_wp2
     go_round
     case rel=>exact⟨2,_,by omega,by go_num,rfl,HJ.out⟩
     case measure=>simp [intOf];omega
   ·have hg:decide ((i:Int)<2)=false:=decide_eq_false j0i3
    by_cases h0:f i=0
    ·have hg2:((f i:Int) == 0)=true:=by rw [h0];rfl
     have hg3:((f i:Int) != 0)=false:=by rw [h0];rfl
     have HJ:Hid (WordInv f (i+1) N):=⟨by rw [show min (i+1) 2=min i 2 from j0i3];exact HI.out.1,fun j h1 h2=>by
      by_cases hj:j=i
      ·subst hj;exact h0
      ·exact HI.out.2 j h1 j0i3⟩
     clear h0
     go_wp2
     go_round
     case rel=>exact⟨i+1,N,by omega,by go_num,rfl,HJ.out⟩
     case measure=>simp [intOf];omega
    ·have hg2:((f i:Int) == 0)=false:=by rw [beq_eq_false_iff_ne];omega
     have hg3:((f i:Int) != 0)=true := jha1
     have HNT:Hid (¬Two n f):=by show ¬_;intro h;exact h0 (h i j0i3 hlt)
     clear h0
     go_wp2
     go_ret2
     exact⟨⟨fun h=>absurd h HNT.out,fun _=>rfl⟩,rfl⟩
  ·obtain rfl:i=n:=by omega
   have HT:Hid (Two i f):=fun j h1 h2=>HI.out.2 j h1 h2
   have HN:Hid (N=num 4294967296 f i):=by
    show N=_
    rw [HI.out.1]
    by_cases h2:i≤2
    ·rw [show min i 2=i from j0i3]
    ·rw [show min i 2=2 from by omega,num_top_zero i 2 j0i3 (fun j h1 h2=>HI.out.2 j h1 h2)]
   clear HI
   go_wp2
   go_ret2
   exact⟨⟨fun _=>by rw [← HN.out];rfl,fun h=>absurd HT.out h⟩,rfl⟩
theorem num_ge_at {B:Nat}(hB:0<B) {f:Nat→Nat} : ∀n j,j<n→f j≠0→B ^ j≤num B f n
 | 0,j,h,_=>absurd h j0i3
 |n+1,j,h,hz=>by
  rw [num_succ]
  by_cases hj:j=n
  ·subst hj
   have:1*B ^ j≤f j*B ^ j:=Nat.mul_le_mul_right _ j0i3
   omega
  ·have:=num_ge_at hB n j j0i3 hz
   omega
theorem two_iff {f:Nat→Nat} {n:Nat}(hf : ∀j,j<n→f j<4294967296):Two n f↔num 4294967296 f n<18446744073709551616:=by
 have e:(18446744073709551616:Nat)=4294967296 ^ 2 := jpu1
 constructor
 ·intro h
  by_cases hn:n≤2
  ·exact Nat.lt_of_lt_of_le (num_lt j0i3 n hf) (by rw [e];exact Nat.pow_le_pow_right j0i3 hn)
  ·rw [num_top_zero n 2 j0i3 h,e]
   exact num_lt j0i3 2 (fun j hj=>hf j j0i3)
 ·intro h j h1 h2
  rcases Nat.eq_zero_or_pos (f j) with h0 | h0
  ·exact h0
  ·have hz:f j≠0:=Nat.ne_of_gt h0
   have a:=num_ge_at (B:=4294967296) j0i3 n j h2 hz
   have b:(4294967296:Nat) ^ 2≤4294967296 ^ j:=Nat.pow_le_pow_right j0i3 h1
   rw [← e] at b
   exact absurd (Nat.lt_of_le_of_lt (Nat.le_trans b a) h) (Nat.lt_irrefl _)
theorem lim_wword_yes {k N:Nat} {w:World} {v:Value}(h:Lim k w v N)(hk:k≤1000000)(hN:N<18446744073709551616) :
 Calls Tryz.prog 141 #[v] w fun e w'=>e = .returned (.tuple #[.int .u64 (N:Nat),.bool true])∧w'=w:=by
 obtain⟨A,n,c,f,rfl,a1,a2,a3,a4,rfl⟩:=h
 exact(wword_any A n c f w a2 a3 j0i3).mono fun e w' h=>⟨h.1.1 ((two_iff a3).2 hN),h.2⟩
theorem lim_wword_no {k N:Nat} {w:World} {v:Value}(h:Lim k w v N)(hk:k≤1000000)(hN:18446744073709551616≤N) :
 Calls Tryz.prog 141 #[v] w fun e w'=>e = .returned (.tuple #[.int .u64 0,.bool false])∧w'=w:=by
 obtain⟨A,n,c,f,rfl,a1,a2,a3,a4,rfl⟩:=h
 exact(wword_any A n c f w a2 a3 j0i3).mono fun e w' h=>⟨h.1.2 (fun hT=>absurd ((two_iff a3).1 hT) (Nat.not_lt.2 hN)),h.2⟩
set_option maxHeartbeats 1000000 in
theorem small_far_false(A:Option Addr)(n c N k:Nat)(w:World)(h:Lim k w (.slice A n c) N)(hk:k≤1000000)(hN:18446744073709551616≤N) :
 Calls Tryz.prog 132 #[.agg #[.bool false,.slice A n c]] w fun e w'=>e = .returned (.tuple #[.int .i64 0,.bool false])∧Below w.heap.size w w':=by
 have HN:=Lib.hid hN
 clear hN
 have D:=Lib.hid (lim_wword_no (h.alloc_ (.cells #[.bool false,.slice A n c] 34)) hk HN.out)
 clear h
 go_enter Tryz.func132,Tryz.ntmps132
 go_wp2_with fail
 refine D.out.mono ?_
 rintro e w1 ⟨rfl,hw⟩
 subst w1
 clear D
 go_wp2
 go_ret2
 exact⟨rfl,below_new _ _⟩
set_option maxHeartbeats 1000000 in
theorem small_far_true(A:Option Addr)(n c N k:Nat)(w:World)(h:Lim k w (.slice A n c) N)(hk:k≤1000000)(hN:18446744073709551616≤N) :
 Calls Tryz.prog 132 #[.agg #[.bool true,.slice A n c]] w fun e w'=>e = .returned (.tuple #[.int .i64 0,.bool false])∧Below w.heap.size w w':=by
 have HN:=Lib.hid hN
 clear hN
 have D:=Lib.hid (lim_wword_no (h.alloc_ (.cells #[.bool true,.slice A n c] 34)) hk HN.out)
 clear h
 go_enter Tryz.func132,Tryz.ntmps132
 go_wp2_with fail
 refine D.out.mono ?_
 rintro e w1 ⟨rfl,hw⟩
 subst w1
 clear D
 go_wp2
 go_ret2
 exact⟨rfl,below_new _ _⟩
set_option maxHeartbeats 1000000 in
theorem small_pos(A:Option Addr)(n c N k:Nat)(w:World)(h:Lim k w (.slice A n c) N)(hk:k≤1000000)(hN:(N:Int)≤9223372036854775807) :
 Calls Tryz.prog 132 #[.agg #[.bool false,.slice A n c]] w fun e w'=>e = .returned (.tuple #[.int .i64 (N:Nat),.bool true])∧Below w.heap.size w w':=by
 have HN:Hid (N<18446744073709551616) := jn6w
 have D:=Lib.hid (lim_wword_yes (h.alloc_ (.cells #[.bool false,.slice A n c] 34)) hk HN.out)
 clear h
 go_enter Tryz.func132,Tryz.ntmps132
 go_wp2_with fail
 refine D.out.mono ?_
 rintro e w1 ⟨rfl,hw⟩
 subst w1
 clear D
 go_wp2
 go_ret2
 exact⟨rfl,below_new _ _⟩
set_option maxHeartbeats 1000000 in
theorem small_pos_no(A:Option Addr)(n c N k:Nat)(w:World)(h:Lim k w (.slice A n c) N)(hk:k≤1000000)(hN:(9223372036854775807:Int)<(N:Int))(hM:(N:Int)≤18446744073709551615) :
 Calls Tryz.prog 132 #[.agg #[.bool false,.slice A n c]] w fun e w'=>e = .returned (.tuple #[.int .i64 0,.bool false])∧Below w.heap.size w w':=by
 have HN:Hid (N<18446744073709551616) := jn6w
 have D:=Lib.hid (lim_wword_yes (h.alloc_ (.cells #[.bool false,.slice A n c] 34)) hk HN.out)
 clear h
 go_enter Tryz.func132,Tryz.ntmps132
 go_wp2_with fail
 refine D.out.mono ?_
 rintro e w1 ⟨rfl,hw⟩
 subst w1
 clear D
 go_wp2
 go_ret2
 exact⟨rfl,below_new _ _⟩
set_option maxHeartbeats 1000000 in
theorem small_neg(A:Option Addr)(n c N k:Nat)(w:World)(h:Lim k w (.slice A n c) N)(hk:k≤1000000)(h0:0<N)(hN:(N:Int)≤9223372036854775808) :
 Calls Tryz.prog 132 #[.agg #[.bool true,.slice A n c]] w fun e w'=>e = .returned (.tuple #[.int .i64 (-(N:Nat)),.bool true])∧Below w.heap.size w w':=by
 have HN:Hid (N<18446744073709551616) := jn6w
 have hw1:=wrap_u64_neg h0 hN
 have hw2:IntKind.i64.wrap (18446744073709551616 - (N:Int)) = -(N:Int):=by rw [IntKind.wrap_i64];omega
 have D:=Lib.hid (lim_wword_yes (h.alloc_ (.cells #[.bool true,.slice A n c] 34)) hk HN.out)
 clear h
 go_enter Tryz.func132,Tryz.ntmps132
 go_wp2_with fail
 refine D.out.mono ?_
 rintro e w1 ⟨rfl,hw⟩
 subst w1
 clear D
 go_wp2
 go_ret2
 exact⟨rfl,below_new _ _⟩
set_option maxHeartbeats 1000000 in
theorem small_neg_0(A:Option Addr)(n c N k:Nat)(w:World)(h:Lim k w (.slice A n c) N)(hk:k≤1000000)(hN:N=0) :
 Calls Tryz.prog 132 #[.agg #[.bool true,.slice A n c]] w fun e w'=>e = .returned (.tuple #[.int .i64 0,.bool true])∧Below w.heap.size w w':=by
 subst hN
 have HN:Hid (0<18446744073709551616):=by show 0<_;omega
 have D:=Lib.hid (lim_wword_yes (h.alloc_ (.cells #[.bool true,.slice A n c] 34)) hk HN.out)
 clear h
 go_enter Tryz.func132,Tryz.ntmps132
 go_wp2_with fail
 refine D.out.mono ?_
 rintro e w1 ⟨rfl,hw⟩
 subst w1
 clear D
 go_wp2
 go_ret2
 exact⟨rfl,below_new _ _⟩
set_option maxHeartbeats 1000000 in
theorem small_neg_no(A:Option Addr)(n c N k:Nat)(w:World)(h:Lim k w (.slice A n c) N)(hk:k≤1000000)(hN:(9223372036854775808:Int)<(N:Int))(hM:(N:Int)≤18446744073709551615) :
 Calls Tryz.prog 132 #[.agg #[.bool true,.slice A n c]] w fun e w'=>e = .returned (.tuple #[.int .i64 0,.bool false])∧Below w.heap.size w w':=by
 have HN:Hid (N<18446744073709551616) := jn6w
 have D:=Lib.hid (lim_wword_yes (h.alloc_ (.cells #[.bool true,.slice A n c] 34)) hk HN.out)
 clear h
 go_enter Tryz.func132,Tryz.ntmps132
 go_wp2_with fail
 refine D.out.mono ?_
 rintro e w1 ⟨rfl,hw⟩
 subst w1
 clear D
 go_wp2
 go_ret2
 exact⟨rfl,below_new _ _⟩
def smallB(Z:Int):Bool:=decide (-9223372036854775808≤Z∧Z≤9223372036854775807)
def smallN(Z:Int):Int:=if -9223372036854775808≤Z∧Z≤9223372036854775807 then Z else 0
def SmallPost(w w':World)(e:Ending)(Z:Int):Prop:=e = .returned (.tuple #[.int .i64 (smallN Z),.bool (smallB Z)])∧Below w.heap.size w w'
theorem small_yes {Z:Int}(h : -9223372036854775808≤Z∧Z≤9223372036854775807):smallB Z=true∧smallN Z=Z:=⟨decide_eq_true h,if_pos h⟩
theorem small_no {Z:Int}(h : ¬ (-9223372036854775808≤Z∧Z≤9223372036854775807)):smallB Z=false∧smallN Z=0:=⟨decide_eq_false h,if_neg h⟩
theorem li_small {k:Nat} {w:World} {v:Value} {X:Int}(h:LimI k w v X)(hk:k≤1000000):Calls Tryz.prog 132 #[v] w fun e w'=>SmallPost w w' e X:=by
 obtain⟨b,m,N,rfl,⟨A,n,c,f,rfl,hr⟩,rfl⟩:=h
 have H:Lim k w (.slice A n c) N:=⟨A,n,c,f,rfl,hr⟩
 unfold SmallPost
 by_cases hf:18446744073709551616≤N
 ·have hs : ¬ (-9223372036854775808≤sg b N∧sg b N≤9223372036854775807):=by unfold sg;cases b <;> simp <;> omega
  rw [(small_no hs).1,(small_no hs).2]
  cases b
  ·exact small_far_false A n c N k w H hk hf
  ·exact small_far_true A n c N k w H hk hf
 ·cases b
  ·by_cases hN:(N:Int)≤9223372036854775807
   ·have hs:(-9223372036854775808≤sg false N∧sg false N≤9223372036854775807):=by unfold sg;simp;omega
    rw [(small_yes hs).1,(small_yes hs).2]
    exact small_pos A n c N k w H hk hN
   ·have hs : ¬ (-9223372036854775808≤sg false N∧sg false N≤9223372036854775807):=by unfold sg;simp;omega
    rw [(small_no hs).1,(small_no hs).2]
    exact small_pos_no A n c N k w H hk j0i3 j0i3
  ·by_cases hN:(N:Int)≤9223372036854775808
   ·have hs:(-9223372036854775808≤sg true N∧sg true N≤9223372036854775807):=by unfold sg;simp;omega
    rw [(small_yes hs).1,(small_yes hs).2]
    rcases Nat.eq_zero_or_pos N with h0 | h0
    ·have:=small_neg_0 A n c N k w H hk h0
     rw [h0]
     exact this
    ·exact small_neg A n c N k w H hk h0 hN
   ·have hs : ¬ (-9223372036854775808≤sg true N∧sg true N≤9223372036854775807):=by unfold sg;simp;omega
    rw [(small_no hs).1,(small_no hs).2]
    exact small_neg_no A n c N k w H hk j0i3 j0i3
end Go.Proofs.YtgilnmhejjpleaaGreat
namespace Go.Proofs.YtgilnmhejjpleaaGreat
open Go.RowKit
def Blk(w:World)(g:Nat)(t:TypeId)(cs:Array Value):Prop:=w.heap[g]? = some (.cells cs t (0,0))
section
variable {w w':World} {g:Nat} {t:TypeId} {cs:Array Value}
theorem Blk.lt(h:Blk w g t cs):g<w.heap.size:=by
 rcases Nat.lt_or_ge g w.heap.size with hlt | hge
 ·exact hlt
 ·unfold Blk at h;rw [Array.getElem?_eq_none hge] at h;cases h
theorem Blk.below(h:Blk w g t cs)(hb:Below w.heap.size w w'):Blk w' g t cs:=(hb.block g h.lt).trans h
theorem Blk.drew_(h:Blk w g t cs):Blk w.drew g t cs:=h
theorem Blk.alloc_(h:Blk w g t cs)(o:Obj):Blk (w.alloc o) g t cs:=h.below ((Below.refl _ _).alloc (Nat.le_refl _) _)
theorem Blk.new(w:World)(g:Nat)(hg:g=w.heap.size)(t:TypeId)(cs:Array Value):Blk (w.alloc (.cells cs t)) g t cs:=by
 subst hg;exact heap_alloc_new w _
theorem Blk.set_(h:Blk w g t cs)(i:Nat)(v:Value):Blk (w.setCell ⟨g,i,none⟩ v) g t (cs.setIfInBounds i v):=by
 unfold Blk at *
 simp [World.setCell,Array.getElem?_modify,h]
theorem Blk.other(h:Blk w g t cs) {g':Nat}(hg:g≠g')(i:Nat)(v:Value):Blk (w.setCell ⟨g',i,none⟩ v) g t cs :=
 (Below.heap_setCell w ⟨g',i,none⟩ v g hg).trans h
theorem Blk.cell(h:Blk w g t cs)(i:Nat):w.cell? ⟨g,i,none⟩=cs[i]? := cell_of_row w g i cs t (0,0) h
theorem Blk.frozen(h:Blk w g t cs)(i:Nat):w.frozen? ⟨g,i,none⟩=false:=frozen_of_row w g i cs t h
end
section
variable {w:World} {g g':Nat} {t:TypeId} {x y a b:Value}
theorem Blk.own2(h:Blk w g t #[x,y]):Blk ((w.setCell ⟨g,0,none⟩ a).setCell ⟨g,1,none⟩ b) g t #[a,b]:=(h.set_ 0 a).set_ 1 b
theorem Blk.other2 {cs:Array Value}(h:Blk w g t cs)(hg:g≠g'):Blk ((w.setCell ⟨g',0,none⟩ a).setCell ⟨g',1,none⟩ b) g t cs:=(h.other hg 0 a).other hg 1 b
theorem Blk.facts2(h:Blk w g t #[x,y]):w.cell? ⟨g,0,none⟩=some x∧w.cell? ⟨g,1,none⟩=some y∧w.frozen? ⟨g,0,none⟩=false∧w.frozen? ⟨g,1,none⟩=false∧∀v,(w.setCell ⟨g,0,none⟩ v).cell? ⟨g,1,none⟩=some y :=
 ⟨h.cell 0,h.cell 1,h.frozen 0,h.frozen 1,fun v=>(h.set_ 0 v).cell 1⟩
theorem Blk.cell0(h:Blk w g t #[x,y]):w.cell? ⟨g,0,none⟩=some x:=h.cell 0
theorem Blk.cell1(h:Blk w g t #[x,y]):w.cell? ⟨g,1,none⟩=some y:=h.cell 1
theorem cell_drew(w:World)(a:Addr):w.drew.cell? a=w.cell? a:=rfl
theorem cell_far2(w:World)(g g' i:Nat)(a b:Value)(hg:g≠g'):((w.setCell ⟨g',0,none⟩ a).setCell ⟨g',1,none⟩ b).cell? ⟨g,i,none⟩=w.cell? ⟨g,i,none⟩:=by
 rw [World.cell?_setCell_far _ _ _ _ (fun e=>hg e.symm),World.cell?_setCell_far _ _ _ _ (fun e=>hg e.symm)]
theorem Below.set2 {B:Nat} {w0:World}(h:Below B w0 w)(hg:B≤g):Below B w0 ((w.setCell ⟨g,0,none⟩ a).setCell ⟨g,1,none⟩ b):=(h.setCell hg _).setCell hg _
end
end Go.Proofs.YtgilnmhejjpleaaGreat
