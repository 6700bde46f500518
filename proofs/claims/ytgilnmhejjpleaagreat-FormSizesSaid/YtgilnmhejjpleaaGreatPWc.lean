/- Whole numbers as values; contracts: signed, isBelow. -/
import Derived.Test.YtgilnmhejjpleaaGreatPNatE
import Derived.Test.YtgilnmhejjpleaaGreatPNatB
import Derived.Deep.RegionWith
import Derived.Deep.DrawnRows
import Derived.Test.YtgilnmhejjpleaaGreatPNatD
import Derived.Test.YtgilnmhejjpleaaGreatPNatC
import Derived.Test.YtgilnmhejjpleaaGreatPNatBb
import Derived.Deep.RegionHeld3
namespace Go.Proofs.YtgilnmhejjpleaaGreat
open Go.RowKit
theorem j0l {P:Prop}(h:P:=by assumption):P:=h
theorem j0u {P:Prop}(h:P:=by have := hb1.size; simp at this; omega):P:=h
theorem j0v {P:Prop}(h:P:=by have := hb2.size; omega):P:=h
theorem jbp {P:Prop}(h:P:=by cases b <;> rfl):P:=h
theorem jb6 {P:Prop}(h:P:=by simp [results, Tryz.results89, go_sem, hr1, hr2]):P:=h
theorem jc0 {P:Prop}(h:P:=by repeat (first | assumption | with_reducible refine Lim.drew_ ?_ | with_reducible refine Lim.alloc_ ?_ _ | with_reducible refine Lim.below ?_ j0l)):P:=h
theorem jdg {P:Prop}(h:P:=by rw [hc2 _ _ hz1_2, hc1 _ _ j0b]; exact (res_new _ _ j0b _ _).1):P:=h
theorem jdh {P:Prop}(h:P:=by rw [hc2 _ _ hz1_2, hc1 _ _ j0b]; exact (res_new _ _ j0b _ _).2):P:=h
def sg(b:Bool)(N:Nat):Int:=if b then -(N:Int) else (N:Int)
theorem sg_abs(b:Bool)(N:Nat):(sg b N).natAbs=N:=by unfold sg;cases b <;> simp
theorem sg_neg(b:Bool)(N:Nat):decide (sg b N<0)=(b && decide (0<N)):=by
 unfold sg
 cases b
 ·simp
 ·by_cases h:0<N <;> simp [h]
def LimI(k:Nat)(w:World)(v:Value)(Z:Int):Prop := ∃b m N,v = .agg #[.bool b,m]∧Lim k w m N∧Z=sg b N
def IsInt(w:World)(v:Value)(Z:Int):Prop := ∃m,v = .agg #[.bool (decide (Z<0)),m]∧IsNat w m Z.natAbs
theorem LimI.below {k:Nat} {w w':World} {v:Value} {Z:Int}(h:LimI k w v Z)(hb:Below w.heap.size w w'):LimI k w' v Z:=by
 obtain⟨b,m,N,h1,h2,h3⟩:=h
 exact⟨b,m,N,h1,h2.below hb,h3⟩
theorem IsInt.below {w w':World} {v:Value} {Z:Int}(h:IsInt w v Z)(hb:Below w.heap.size w w'):IsInt w' v Z:=by
 obtain⟨m,h1,h2⟩:=h
 exact⟨m,h1,h2.below hb⟩
theorem LimI.lt {k:Nat} {w:World} {v:Value} {Z:Int}(h:LimI k w v Z):Z.natAbs<4294967296 ^ k:=by
 obtain⟨b,m,N,h1,h2,rfl⟩:=h
 rw [sg_abs]
 exact h2.lt
theorem sg_of(Z:Int):sg (decide (Z<0)) Z.natAbs=Z:=by
 unfold sg
 by_cases h:Z<0
 ·rw [decide_eq_true h,if_pos rfl];omega
 ·rw [decide_eq_false h];simp;omega
theorem IsInt.lim {k:Nat} {w:World} {v:Value} {Z:Int}(h:IsInt w v Z)(hZ:Z.natAbs<4294967296 ^ k):LimI k w v Z:=by
 obtain⟨m,h1,h2⟩:=h
 exact⟨_,m,_,h1,h2.lim hZ,(sg_of Z).symm⟩
def IntPost(w w':World)(e:Ending)(Z:Int):Prop := ∃v,e = .returned v∧IsInt w' v Z∧Below w.heap.size w w'
theorem isInt_sg {w:World} {m:Value} {b:Bool} {N:Nat}(h:IsNat w m N):IsInt w (.agg #[.bool (b && decide (0<N)),m]) (sg b N) :=
 ⟨m,by rw [sg_neg],by rw [sg_abs];exact h⟩
theorem isNat_form {w:World} {v:Value} {N:Nat}(h:IsNat w v N) : ∃A n c,v = .slice A n c∧(0<n↔0<N)∧IsNat w (.slice A n c) N:=by
 obtain⟨A,n,c,f,rfl,a1,a2,a3,a4,a5⟩:=h
 refine⟨A,n,c,rfl,⟨fun h0=>?_,fun h0=>?_⟩,A,n,c,f,rfl,a1,a2,a3,a4,a5⟩
 ·have:=a4.pos (B:=4294967296) j0a h0;omega
 ·rcases Nat.eq_zero_or_pos n with h | h
  ·subst h;rw [← a5] at h0;simp [num] at h0
  ·exact h
set_option maxHeartbeats 1000000 in
theorem signed_any(b:Bool)(A:Option Addr)(n c N:Nat)(w:World)(h:IsNat w (.slice A n c) N)(hn:0<n↔0<N) :
 Calls Tryz.prog 101 #[.bool b,.slice A n c] w fun e w'=>IntPost w w' e (sg b N):=by
 have H:=Lib.hid h
 have HS:Hid (decide (0<n)=decide (0<N)):=by
  show _=_
  by_cases x:0<n
  ·rw [decide_eq_true x,decide_eq_true (hn.1 x)]
  ·rw [decide_eq_false x,decide_eq_false (by rw [← hn];exact x)]
 clear h hn
 cases b
 ·go_enter Tryz.func101,Tryz.ntmps101
  go_wp2
  exact bodyPost_ret (v := .agg #[.bool false,.slice A n c]) (by simp [results,Tryz.results101,go_sem]) rfl ⟨_,rfl,isInt_sg (b:=false) (H.out.below (below_new _ _)),below_new _ _⟩
 ·go_enter Tryz.func101,Tryz.ntmps101
  go_wp2
  refine bodyPost_ret (v := .agg #[.bool (decide (0<n)),.slice A n c]) (by simp [results,Tryz.results101,go_sem]) rfl ⟨_,rfl,?_,below_new _ _⟩
  have e:decide (0<n)=(true && decide (0<N)):=by rw [Bool.true_and,HS.out]
  rw [e]
  exact isInt_sg (b:=true) (H.out.below (below_new _ _))
theorem Lim.alloc_ {k:Nat} {w:World} {v:Value} {N:Nat}(h:Lim k w v N)(o:Obj):Lim k (w.alloc o) v N:=h.below (below_new w o)
theorem Lim.drew_ {k:Nat} {w:World} {v:Value} {N:Nat}(h:Lim k w v N):Lim k w.drew v N:=h
theorem lim_nil(w:World):Lim 0 w (.slice none 0 0) 0:=⟨none,0,0,fun _=>0,rfl,Nat.le_refl _,Rd.zero,fun j hj=>absurd hj j0a,Nat.le_refl _,rfl⟩
theorem cmpN_zero(N:Nat):decide (0<cmpN N 0)=decide (0<N):=by
 unfold cmpN
 by_cases h:0<N
 ·rw [if_neg j0a,if_neg j0a,decide_eq_true h];rfl
 ·rw [if_neg j0a,if_pos j0a,decide_eq_false h];rfl
set_option maxHeartbeats 1000000 in
theorem isBelow_any(b:Bool)(A:Option Addr)(n c N k:Nat)(w:World)(h:Lim k w (.slice A n c) N)(hk:k≤1000000) :
 Calls Tryz.prog 116 #[.agg #[.bool b,.slice A n c]] w fun e w'=>e = .returned (.bool (decide (sg b N<0)))∧Below w.heap.size w w':=by
 have HSG:=Lib.hid (sg_neg b N)
 generalize decide (sg b N<0)=r at *
 cases b
 ·have hr:r=false:=by rw [HSG.out];rfl
  subst hr
  go_enter Tryz.func116,Tryz.ntmps116
  go_wp2
  go_ret
  exact⟨rfl,below_new _ _⟩
 ·have hr:r=decide (0<N):=by rw [HSG.out];rfl
  subst hr
  have CM:=Lib.hid (lim_cmp (h.alloc_ (.cells #[.bool true,.slice A n c] 34)) (lim_nil _) hk j0a)
  have HC:=Lib.hid (cmpN_zero N)
  clear h HSG
  go_enter Tryz.func116,Tryz.ntmps116
  go_wp2_with fail
  refine CM.out.mono ?_
  rintro e w1 ⟨rfl,hb⟩
  have HB:=Lib.hid ((below_new w _).trans (hb.mono j0b))
  clear hb CM
  go_wp2
  go_ret
  exact⟨by rw [← HC.out];rfl,HB.out⟩
theorem bcell {W w1:World}(hb:Below W.heap.size W w1):(∀b o,b<W.heap.size→w1.cell? ⟨b,o,none⟩=W.cell? ⟨b,o,none⟩)∧(∀b o,b<W.heap.size→w1.frozen? ⟨b,o,none⟩=W.frozen? ⟨b,o,none⟩) :=
 ⟨fun b o h=>hb.cell (p:=⟨b,o,none⟩) h,fun b o h=>hb.frozen (p:=⟨b,o,none⟩) h⟩
theorem second_cell {w:World} {g:Nat} {x:Value}(h:w.cell? ⟨g,1,none⟩=some x)(v:Value):(w.setCell ⟨g,0,none⟩ v).cell? ⟨g,1,none⟩=some x:=by
 rw [World.cell?_setCell_other (w:=w) (v:=v) (a:=⟨g,0,none⟩) (b:=⟨g,1,none⟩) j0b]
 exact h
theorem Rd.apart {K:IntKind} {w:World} {A:Option Addr} {n:Nat} {f:Nat→Nat} {p:Addr} {x:Value}(h:Rd K w A n f)(hp:w.cell? p=some x)(hx : ∀z,x≠ .int K z)(y:Value):Rd K (w.setCell p y) A n f:=fun j hj=>by
 obtain⟨ad,e,hc⟩:=h j hj
 refine⟨ad,e,?_⟩
 rw [World.cell?_setCell_other (w:=w) (v:=y) (a:=p) (b:=ad.add j) (fun he=>by rw [← he,hp] at hc;injection hc with hc;exact hx _ hc)]
 exact hc
theorem IsNat.apart {w:World} {v:Value} {N:Nat} {p:Addr} {x:Value}(h:IsNat w v N)(hp:w.cell? p=some x)(hx : ∀z,x≠ .int .u32 z)(y:Value):IsNat (w.setCell p y) v N:=by
 obtain⟨A,n,c,f,h1,h2,h3,h4⟩:=h
 exact⟨A,n,c,f,h1,h2,h3.apart hp hx y,h4⟩
theorem IsNat.stored {w:World} {v:Value} {N:Nat} {g:Nat} {b0:Bool} {A0:Option Addr} {n0 c0:Nat}(h:IsNat w v N)(h0:w.cell? ⟨g,0,none⟩=some (.bool b0))(h1:w.cell? ⟨g,1,none⟩=some (.slice A0 n0 c0))(x y:Value) :
 IsNat ((w.setCell ⟨g,0,none⟩ x).setCell ⟨g,1,none⟩ y) v N :=
 (h.apart h0 (fun z e=>by cases e) x).apart (second_cell h1 x) (fun z e=>by cases e) y
theorem first_cell {w:World} {g:Nat} {x:Value}(h:w.cell? ⟨g,0,none⟩=some x)(v:Value):(w.setCell ⟨g,0,none⟩ v).cell? ⟨g,0,none⟩=some v:=World.cell?_setCell_same w ⟨g,0,none⟩ v h
theorem res_new(w:World)(g:Nat)(hg:g=w.heap.size)(x y:Value):(w.alloc (.cells #[x,y] 34)).cell? ⟨g,0,none⟩=some x∧(w.alloc (.cells #[x,y] 34)).cell? ⟨g,1,none⟩=some y:=by
 subst hg
 have h:=heap_alloc_new w (.cells #[x,y] 34)
 exact⟨by rw [cell_of_row _ _ 0 _ _ _ h];rfl,by rw [cell_of_row _ _ 1 _ _ _ h];rfl⟩
end Go.Proofs.YtgilnmhejjpleaaGreat
namespace Go.Proofs.YtgilnmhejjpleaaGreat
open Go.RowKit
attribute [local go_sem ↓] Go.wp_at_zero Go.wp_at_succ
theorem sg_add(b:Bool)(N M:Nat):sg b N+sg b M=sg b (N+M):=by unfold sg;cases b <;> simp <;> omega
theorem sg_sub_ge(b:Bool) {N M:Nat}(h:M≤N):sg b N+sg (!b) M=sg b (N - M):=by unfold sg;cases b <;> simp <;> omega
theorem sg_sub_lt(b:Bool) {N M:Nat}(h:N<M):sg b N+sg (!b) M=sg (!b) (M - N):=by unfold sg;cases b <;> simp <;> omega
theorem sg_mul(b c:Bool)(N M:Nat):sg b N*sg c M=sg (b != c) (N*M):=by unfold sg;cases b <;> cases c <;> simp [Int.neg_mul,Int.mul_neg]
theorem sg_not(b:Bool)(N:Nat):sg (!b) N = -sg b N:=by unfold sg;cases b <;> simp
theorem int_end {w w2:World} {g:Nat} {b:Bool} {A A0:Option Addr} {n c n0 c0:Nat} {b0:Bool} {Z:Int}(hb:Below w.heap.size w w2)(hg:w.heap.size≤g)
 (h0:w2.cell? ⟨g,0,none⟩=some (.bool b0)) (h1:w2.cell? ⟨g,1,none⟩=some (.slice A0 n0 c0)) (hi:IsNat w2 (.slice A n c) Z.natAbs) (hz:b=decide (Z<0)) :
 IntPost w ((w2.setCell ⟨g,0,none⟩ (.bool b)).setCell ⟨g,1,none⟩ (.slice A n c)) (.returned (.agg #[.bool b,.slice A n c])) Z :=
 ⟨_,rfl,⟨_,by rw [hz],hi.stored h0 h1 _ _⟩,(hb.setCell hg _).setCell hg _⟩
set_option maxHeartbeats 2000000 in
theorem add_same(b:Bool)(A:Option Addr)(n c N k:Nat)(B:Option Addr)(m d M l:Nat)(w:World)(h:Lim k w (.slice A n c) N)(h':Lim l w (.slice B m d) M)(hk:k≤1000000)(hl:l≤1000000) :
 Calls Tryz.prog 89 #[.agg #[.bool b,.slice A n c],.agg #[.bool b,.slice B m d]] w fun e w'=>IntPost w w' e (sg b (N+M)):=by
 have hs0:w.heap.size<w.heap.size+1+1+1 := j0a
 have hs1:w.heap.size+1<w.heap.size+1+1+1 := j0a
 have hs2 : ¬w.heap.size=w.heap.size+1+1 := j0a
 have hs3 : ¬w.heap.size+1+1=w.heap.size := j0a
 go_enter Tryz.func89,Tryz.ntmps89
 go_wp2
 go_region_held3 (fun w'=>w'.cell? ⟨w.heap.size,0,none⟩=some (.bool b)∧w'.cell? ⟨w.heap.size,1,none⟩=some (.slice A n c)∧w'.cell? ⟨w.heap.size+1,0,none⟩=some (.bool b)∧w'.cell? ⟨w.heap.size+1,1,none⟩=some (.slice B m d)) (go_keep)
  (first
   |(go_at_call 109;refine Calls.mono (lim_add (k:=k) (m:=l) (N:=N) (M:=M) jc0 jc0 hk hl) ?_;rintro e w1 ⟨v1,rfl,h1,hb1⟩;obtain⟨A1,n1,c1,rfl,hn1,h1⟩:=isNat_form h1;obtain⟨hc1,hf1⟩:=bcell hb1;have hz1_0:w.heap.size<w1.heap.size := j0u;have hz1_1:w.heap.size+1<w1.heap.size := j0u;have hz1_2:w.heap.size+1+1<w1.heap.size := j0u)
   |(go_at_call 101;refine Calls.mono (signed_any _ _ _ _ _ _ h1 hn1) ?_;rintro e w2 ⟨v2,rfl,⟨m2,rfl,h2⟩,hb2⟩;obtain⟨A2,n2,c2,rfl,hn2,h2⟩:=isNat_form h2;obtain⟨hc2,hf2⟩:=bcell hb2;have hz2_0:w.heap.size<w2.heap.size := j0v;have hz2_1:w.heap.size+1<w2.heap.size := j0v;have hz2_2:w.heap.size+1+1<w2.heap.size := j0v))
 have b0:Below w.heap.size w (((w.alloc (.cells #[.bool b,.slice A n c] 34)).alloc (.cells #[.bool b,.slice B m d] 34)).alloc (.cells #[.bool false,.slice none 0 0] 34)):=(((Below.refl _ _).alloc (Nat.le_refl _) _).alloc j0b _).alloc j0j _
 have B2:Below w.heap.size w w2:=(b0.drew.trans (hb1.mono j0j)).trans (hb2.mono j0a)
 have x0:w2.cell? ⟨w.heap.size+1+1,0,none⟩=some (.bool false) := jdg
 have x1:w2.cell? ⟨w.heap.size+1+1,1,none⟩=some (.slice none 0 0) := jdh
 have HE:=Lib.hid (int_end (w:=w) (g:=w.heap.size+1+1) B2 j0a x0 x1 h2 rfl)
 have hr1:=first_cell x0
 have hr2:=second_cell x1
 clear x0 x1 h2
 go_wp2
 exact bodyPost_ret (v := .agg #[.bool (decide (sg b (N+M)<0)),.slice A2 n2 c2]) jb6 rfl HE.out
set_option maxHeartbeats 2000000 in
theorem wadd_ge(b:Bool)(A:Option Addr)(n c N k:Nat)(B:Option Addr)(m d M l:Nat)(w:World)(h:Lim k w (.slice A n c) N)(h':Lim l w (.slice B m d) M)(hk:k≤1000000)(hl:l≤1000000)(hge:M≤N) :
 Calls Tryz.prog 89 #[.agg #[.bool b,.slice A n c],.agg #[.bool (!b),.slice B m d]] w fun e w'=>IntPost w w' e (sg b (N - M)):=by
 have hne:(b == !b)=false := jbp
 have hs0:w.heap.size<w.heap.size+1+1+1 := j0a
 have hs1:w.heap.size+1<w.heap.size+1+1+1 := j0a
 have hs2 : ¬w.heap.size=w.heap.size+1+1 := j0a
 have hs3 : ¬w.heap.size+1+1=w.heap.size := j0a
 go_enter Tryz.func89,Tryz.ntmps89
 go_wp2_with fail
 refine Calls.mono ((lim_sub (k:=k) (m:=l) (N:=N) (M:=M) jc0 jc0 hk hl).mono fun e w' h=>h.yes hge) ?_
 rintro e w1 ⟨v1,rfl,h1,hb1⟩
 obtain⟨A1,n1,c1,rfl,hn1,h1⟩:=isNat_form h1
 obtain⟨hc1,hf1⟩:=bcell hb1
 have hz1_0:w.heap.size<w1.heap.size := j0u
 have hz1_1:w.heap.size+1<w1.heap.size := j0u
 have hz1_2:w.heap.size+1+1<w1.heap.size := j0u
 go_wp2_with fail
 refine Calls.mono (signed_any _ _ _ _ _ _ h1 hn1) ?_
 rintro e w2 ⟨v2,rfl,⟨m2,rfl,h2⟩,hb2⟩
 obtain⟨A2,n2,c2,rfl,hn2,h2⟩:=isNat_form h2
 obtain⟨hc2,hf2⟩:=bcell hb2
 have hz2_0:w.heap.size<w2.heap.size := j0v
 have hz2_1:w.heap.size+1<w2.heap.size := j0v
 have hz2_2:w.heap.size+1+1<w2.heap.size := j0v
 have b0:Below w.heap.size w (((w.alloc (.cells #[.bool b,.slice A n c] 34)).alloc (.cells #[.bool !b,.slice B m d] 34)).alloc (.cells #[.bool false,.slice none 0 0] 34)):=(((Below.refl _ _).alloc (Nat.le_refl _) _).alloc j0b _).alloc j0j _
 have B2:Below w.heap.size w w2:=((b0.trans (hb1.mono j0j)).trans (hb2.mono j0a))
 have x0:w2.cell? ⟨w.heap.size+1+1,0,none⟩=some (.bool false) := jdg
 have x1:w2.cell? ⟨w.heap.size+1+1,1,none⟩=some (.slice none 0 0) := jdh
 have HE:=Lib.hid (int_end (w:=w) (g:=w.heap.size+1+1) B2 j0a x0 x1 h2 rfl)
 have hr1:=first_cell x0
 have hr2:=second_cell x1
 clear x0 x1 h2
 go_wp2
 exact bodyPost_ret (v := .agg #[.bool (decide (sg b (N - M)<0)),.slice A2 n2 c2]) jb6 rfl HE.out
set_option maxHeartbeats 2000000 in
theorem wadd_lt(b:Bool)(A:Option Addr)(n c N k:Nat)(B:Option Addr)(m d M l:Nat)(w:World)(h:Lim k w (.slice A n c) N)(h':Lim l w (.slice B m d) M)(hk:k≤1000000)(hl:l≤1000000)(hlt:N<M) :
 Calls Tryz.prog 89 #[.agg #[.bool b,.slice A n c],.agg #[.bool (!b),.slice B m d]] w fun e w'=>IntPost w w' e (sg (!b) (M - N)):=by
 have hne:(b == !b)=false := jbp
 have hs0:w.heap.size<w.heap.size+1+1+1 := j0a
 have hs1:w.heap.size+1<w.heap.size+1+1+1 := j0a
 have hs2 : ¬w.heap.size=w.heap.size+1+1 := j0a
 have hs3 : ¬w.heap.size+1+1=w.heap.size := j0a
 go_enter Tryz.func89,Tryz.ntmps89
 go_wp2_with fail
 refine Calls.mono ((lim_sub (k:=k) (m:=l) (N:=N) (M:=M) jc0 jc0 hk hl).mono fun e w' h=>h.no hlt) ?_
 rintro e w1 ⟨v1,rfl,h1,hb1⟩
 obtain⟨hc1,hf1⟩:=bcell hb1
 have hz1_0:w.heap.size<w1.heap.size := j0u
 have hz1_1:w.heap.size+1<w1.heap.size := j0u
 have hz1_2:w.heap.size+1+1<w1.heap.size := j0u
 go_wp2_with fail
 refine Calls.mono ((lim_sub (k:=l) (m:=k) (N:=M) (M:=N) jc0 jc0 hl hk).mono fun e w' h=>h.yes j0a) ?_
 rintro e w2 ⟨v2,rfl,h2,hb2⟩
 obtain⟨A2,n2,c2,rfl,hn2,h2⟩:=isNat_form h2
 obtain⟨hc2,hf2⟩:=bcell hb2
 have hz2_0:w.heap.size<w2.heap.size := j0v
 have hz2_1:w.heap.size+1<w2.heap.size := j0v
 have hz2_2:w.heap.size+1+1<w2.heap.size := j0v
 go_wp2_with fail
 refine Calls.mono (signed_any _ _ _ _ _ _ h2 hn2) ?_
 rintro e w3 ⟨v3,rfl,⟨m3,rfl,h3⟩,hb3⟩
 obtain⟨A3,n3,c3,rfl,hn3,h3⟩:=isNat_form h3
 obtain⟨hc3,hf3⟩:=bcell hb3
 have hz3_0:w.heap.size<w3.heap.size:=(by have:=hb3.size;omega)
 have hz3_1:w.heap.size+1<w3.heap.size:=(by have:=hb3.size;omega)
 have hz3_2:w.heap.size+1+1<w3.heap.size:=(by have:=hb3.size;omega)
 have b0:Below w.heap.size w (((w.alloc (.cells #[.bool b,.slice A n c] 34)).alloc (.cells #[.bool !b,.slice B m d] 34)).alloc (.cells #[.bool false,.slice none 0 0] 34)):=(((Below.refl _ _).alloc (Nat.le_refl _) _).alloc j0b _).alloc j0j _
 have B2:Below w.heap.size w w3:=(((b0.trans (hb1.mono j0j)).trans (hb2.mono j0a)).trans (hb3.mono j0a))
 have x0:w3.cell? ⟨w.heap.size+1+1,0,none⟩=some (.bool false):=by rw [hc3 _ _ hz2_2,hc2 _ _ hz1_2,hc1 _ _ j0b];exact(res_new _ _ j0b _ _).1
 have x1:w3.cell? ⟨w.heap.size+1+1,1,none⟩=some (.slice none 0 0):=by rw [hc3 _ _ hz2_2,hc2 _ _ hz1_2,hc1 _ _ j0b];exact(res_new _ _ j0b _ _).2
 have HE:=Lib.hid (int_end (w:=w) (g:=w.heap.size+1+1) B2 j0a x0 x1 h3 rfl)
 have hr1:=first_cell x0
 have hr2:=second_cell x1
 clear x0 x1 h3
 go_wp2
 exact bodyPost_ret (v := .agg #[.bool (decide (sg (!b) (M - N)<0)),.slice A3 n3 c3]) jb6 rfl HE.out
set_option maxHeartbeats 2000000 in
theorem mul_any_(b b' s:Bool)(A:Option Addr)(n c N k:Nat)(B:Option Addr)(m d M l:Nat)(w:World)(h:Lim k w (.slice A n c) N)(h':Lim l w (.slice B m d) M)(hk:k≤1000000)(hl:l≤1000000)(hs:(b != b')=s) :
 Calls Tryz.prog 90 #[.agg #[.bool b,.slice A n c],.agg #[.bool b',.slice B m d]] w fun e w'=>IntPost w w' e (sg s (N*M)):=by
 have hs':(!b == b')=s:=by rw [← hs];cases b <;> cases b' <;> rfl
 have hs0:w.heap.size<w.heap.size+1+1+1 := j0a
 have hs1:w.heap.size+1<w.heap.size+1+1+1 := j0a
 have hs2 : ¬w.heap.size=w.heap.size+1+1 := j0a
 have hs3 : ¬w.heap.size+1+1=w.heap.size := j0a
 go_enter Tryz.func90,Tryz.ntmps90
 go_wp2
 go_region_held3 (fun w'=>w'.cell? ⟨w.heap.size,0,none⟩=some (.bool b)∧w'.cell? ⟨w.heap.size,1,none⟩=some (.slice A n c)∧w'.cell? ⟨w.heap.size+1,0,none⟩=some (.bool b')∧w'.cell? ⟨w.heap.size+1,1,none⟩=some (.slice B m d)) (go_keep)
  (first
   |(go_at_call 111;refine Calls.mono (lim_mul (k:=k) (m:=l) (N:=N) (M:=M) jc0 jc0 hk hl) ?_;rintro e w1 ⟨v1,rfl,h1,hb1⟩;obtain⟨A1,n1,c1,rfl,hn1,h1⟩:=isNat_form h1;obtain⟨hc1,hf1⟩:=bcell hb1;have hz1_0:w.heap.size<w1.heap.size := j0u;have hz1_1:w.heap.size+1<w1.heap.size := j0u;have hz1_2:w.heap.size+1+1<w1.heap.size := j0u)
   |(go_at_call 101;refine Calls.mono (signed_any _ _ _ _ _ _ h1 hn1) ?_;rintro e w2 ⟨v2,rfl,⟨m2,rfl,h2⟩,hb2⟩;obtain⟨A2,n2,c2,rfl,hn2,h2⟩:=isNat_form h2;obtain⟨hc2,hf2⟩:=bcell hb2;have hz2_0:w.heap.size<w2.heap.size := j0v;have hz2_1:w.heap.size+1<w2.heap.size := j0v;have hz2_2:w.heap.size+1+1<w2.heap.size := j0v))
 have b0:Below w.heap.size w (((w.alloc (.cells #[.bool b,.slice A n c] 34)).alloc (.cells #[.bool b',.slice B m d] 34)).alloc (.cells #[.bool false,.slice none 0 0] 34)):=(((Below.refl _ _).alloc (Nat.le_refl _) _).alloc j0b _).alloc j0j _
 have B2:Below w.heap.size w w2:=((b0.drew.trans (hb1.mono j0j)).trans (hb2.mono j0a))
 have x0:w2.cell? ⟨w.heap.size+1+1,0,none⟩=some (.bool false) := jdg
 have x1:w2.cell? ⟨w.heap.size+1+1,1,none⟩=some (.slice none 0 0) := jdh
 have HE:=Lib.hid (int_end (w:=w) (g:=w.heap.size+1+1) B2 j0a x0 x1 h2 rfl)
 have hr1:=first_cell x0
 have hr2:=second_cell x1
 clear x0 x1 h2
 go_wp2
 exact bodyPost_ret (v := .agg #[.bool (decide (sg s (N*M)<0)),.slice A2 n2 c2]) (by simp [results,Tryz.results90,go_sem,hr1,hr2]) rfl HE.out
theorem li_add {k l:Nat} {w:World} {v v':Value} {X Y:Int}(h:LimI k w v X)(h':LimI l w v' Y)(hk:k≤1000000)(hl:l≤1000000):Calls Tryz.prog 89 #[v,v'] w fun e w'=>IntPost w w' e (X+Y):=by
 obtain⟨b,m,N,rfl,⟨A,n,c,f,rfl,hr⟩,rfl⟩:=h
 obtain⟨b',m',M,rfl,⟨B,n',c',f',rfl,hr'⟩,rfl⟩:=h'
 by_cases hb:b=b'
 ·subst hb
  rw [sg_add]
  exact add_same b A n c N k B n' c' M l w ⟨A,n,c,f,rfl,hr⟩ ⟨B,n',c',f',rfl,hr'⟩ hk hl
 ·obtain rfl:b' = !b:=by cases b <;> cases b' <;> simp_all
  by_cases hle:M≤N
  ·rw [sg_sub_ge b hle]
   exact wadd_ge b A n c N k B n' c' M l w ⟨A,n,c,f,rfl,hr⟩ ⟨B,n',c',f',rfl,hr'⟩ hk hl hle
  ·rw [sg_sub_lt b j0a]
   exact wadd_lt b A n c N k B n' c' M l w ⟨A,n,c,f,rfl,hr⟩ ⟨B,n',c',f',rfl,hr'⟩ hk hl j0a
theorem li_mul {k l:Nat} {w:World} {v v':Value} {X Y:Int}(h:LimI k w v X)(h':LimI l w v' Y)(hk:k≤1000000)(hl:l≤1000000):Calls Tryz.prog 90 #[v,v'] w fun e w'=>IntPost w w' e (X*Y):=by
 obtain⟨b,m,N,rfl,⟨A,n,c,f,rfl,hr⟩,rfl⟩:=h
 obtain⟨b',m',M,rfl,⟨B,n',c',f',rfl,hr'⟩,rfl⟩:=h'
 rw [sg_mul]
 exact mul_any_ b b' _ A n c N k B n' c' M l w ⟨A,n,c,f,rfl,hr⟩ ⟨B,n',c',f',rfl,hr'⟩ hk hl rfl
end Go.Proofs.YtgilnmhejjpleaaGreat
