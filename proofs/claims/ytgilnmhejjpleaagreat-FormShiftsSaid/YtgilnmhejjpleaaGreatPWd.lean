/- Contracts of whole: Add, Sub, Mul. -/
import Derived.Test.YtgilnmhejjpleaaGreatPWa
import Derived.Deep.RegionHeld3
import Derived.Deep.DrawnRows
namespace Go.Proofs.YtgilnmhejjpleaaGreat
open Go.RowKit
attribute [local go_sem ↓] Go.wp_at_zero Go.wp_at_succ
theorem j54r {P:Prop}(h:P:=by have := hb2.size; omega):P:=h
theorem j9ab {P:Prop}(h:P:=by have := hb2.size; (try simp at this); omega):P:=h
theorem jbuq {P:Prop}(h:P:=by simp [results, Tryz.results89, go_sem, hr1, hr2]):P:=h
theorem jccs {P:Prop}(h:P:=by have := hb1.size; simp at this; omega):P:=h
theorem jct3 {P:Prop}(h:P:=by have := hb1.size; (try simp at this); omega):P:=h
theorem jho2 {P:Prop}(h:P:=by assumption):P:=h
theorem jzab {P:Prop}(h:P:=by cases b <;> rfl):P:=h
theorem jb9u {P:Prop}(h:P:=by rw [hc2 _ _ hz1_2, hc1 _ _ jupy]; exact (res_new _ _ jupy _ _).2):P:=h
theorem jei1 {P:Prop}(h:P:=by rw [hc2 _ _ hz1_2, hc1 _ _ jupy]; exact (res_new _ _ jupy _ _).1):P:=h
theorem sg_add(b:Bool)(N M:Nat):sg b N+sg b M=sg b (N+M):=by unfold sg;cases b <;> simp <;> omega
theorem sg_sub_ge(b:Bool) {N M:Nat}(h:M≤N):sg b N+sg (!b) M=sg b (N - M):=by unfold sg;cases b <;> simp <;> omega
theorem sg_sub_lt(b:Bool) {N M:Nat}(h:N<M):sg b N+sg (!b) M=sg (!b) (M - N):=by unfold sg;cases b <;> simp <;> omega
theorem sg_mul(b c:Bool)(N M:Nat):sg b N*sg c M=sg (b != c) (N*M):=by unfold sg;cases b <;> cases c <;> simp [Int.neg_mul,Int.mul_neg]
theorem sg_not(b:Bool)(N:Nat):sg (!b) N = -sg b N:=by unfold sg;cases b <;> simp
theorem int_end {w w2:World} {g:Nat} {b:Bool} {A A0:Option Addr} {n c n0 c0:Nat} {b0:Bool} {Z:Int}(hb:Below w.heap.size w w2)(hg:w.heap.size≤g)
 (h0:w2.cell? ⟨g,0,none⟩=some (.bool b0)) (h1:w2.cell? ⟨g,1,none⟩=some (.slice A0 n0 c0)) (hi:IsNat w2 (.slice A n c) Z.natAbs) (hz:b=decide (Z<0)) :
 IntPost w ((w2.setCell ⟨g,0,none⟩ (.bool b)).setCell ⟨g,1,none⟩ (.slice A n c)) (.returned (.agg #[.bool b,.slice A n c])) Z :=
 ⟨_,rfl,⟨_,by rw [hz],hi.stored h0 h1 _ _⟩,(hb.setCell hg _).setCell hg _⟩
set_option maxHeartbeats 2000000 in
theorem add_same(b:Bool)(A:Option Addr)(n c N k:Nat)(B:Option Addr)(m d M l:Nat)(w:World)(h:Lim k w (.slice A n c) N)(h':Lim l w (.slice B m d) M)(hk:k≤1000000)(hl:l≤1000000) :
 Calls Tryz.prog 89 #[.agg #[.bool b,.slice A n c],.agg #[.bool b,.slice B m d]] w fun e w'=>IntPost w w' e (sg b (N+M)):=by
 have hs0:w.heap.size<w.heap.size+1+1+1 := j0i3
 have hs1:w.heap.size+1<w.heap.size+1+1+1 := j0i3
 have hs2 : ¬w.heap.size=w.heap.size+1+1 := j0i3
 have hs3 : ¬w.heap.size+1+1=w.heap.size := j0i3
 go_enter Tryz.func89,Tryz.ntmps89
 go_wp2
 go_region_held3 (fun w'=>w'.cell? ⟨w.heap.size,0,none⟩=some (.bool b)∧w'.cell? ⟨w.heap.size,1,none⟩=some (.slice A n c)∧w'.cell? ⟨w.heap.size+1,0,none⟩=some (.bool b)∧w'.cell? ⟨w.heap.size+1,1,none⟩=some (.slice B m d)) (go_keep)
  (first
   |(go_at_call 109;refine Calls.mono (lim_add (k:=k) (m:=l) (N:=N) (M:=M) (by repeat (first | assumption | with_reducible refine Lim.drew_ ?_ | with_reducible refine Lim.alloc_ ?_ _ | with_reducible refine Lim.below ?_ jho2)) (by repeat (first | assumption | with_reducible refine Lim.drew_ ?_ | with_reducible refine Lim.alloc_ ?_ _ | with_reducible refine Lim.below ?_ jho2)) hk hl) ?_;rintro e w1 ⟨v1,rfl,h1,hb1⟩;obtain⟨A1,n1,c1,rfl,hn1,h1⟩:=isNat_form h1;obtain⟨hc1,hf1⟩:=bcell hb1;have hz1_0:w.heap.size<w1.heap.size := jccs;have hz1_1:w.heap.size+1<w1.heap.size := jccs;have hz1_2:w.heap.size+1+1<w1.heap.size := jccs)
   |(go_at_call 101;refine Calls.mono (signed_any _ _ _ _ _ _ h1 hn1) ?_;rintro e w2 ⟨v2,rfl,⟨m2,rfl,h2⟩,hb2⟩;obtain⟨A2,n2,c2,rfl,hn2,h2⟩:=isNat_form h2;obtain⟨hc2,hf2⟩:=bcell hb2;have hz2_0:w.heap.size<w2.heap.size := j54r;have hz2_1:w.heap.size+1<w2.heap.size := j54r;have hz2_2:w.heap.size+1+1<w2.heap.size := j54r))
 have b0:Below w.heap.size w (((w.alloc (.cells #[.bool b,.slice A n c] 34)).alloc (.cells #[.bool b,.slice B m d] 34)).alloc (.cells #[.bool false,.slice none 0 0] 34)):=(((Below.refl _ _).alloc (Nat.le_refl _) _).alloc jupy _).alloc jb6b _
 have B2:Below w.heap.size w w2:=(b0.drew.trans (hb1.mono jb6b)).trans (hb2.mono j0i3)
 have x0:w2.cell? ⟨w.heap.size+1+1,0,none⟩=some (.bool false) := jei1
 have x1:w2.cell? ⟨w.heap.size+1+1,1,none⟩=some (.slice none 0 0) := jb9u
 have HE:=Lib.hid (int_end (w:=w) (g:=w.heap.size+1+1) B2 j0i3 x0 x1 h2 rfl)
 have hr1:=first_cell x0
 have hr2:=second_cell x1
 clear x0 x1 h2
 go_wp2
 exact bodyPost_ret (v := .agg #[.bool (decide (sg b (N+M)<0)),.slice A2 n2 c2]) jbuq rfl HE.out
set_option maxHeartbeats 2000000 in
theorem wadd_ge(b:Bool)(A:Option Addr)(n c N k:Nat)(B:Option Addr)(m d M l:Nat)(w:World)(h:Lim k w (.slice A n c) N)(h':Lim l w (.slice B m d) M)(hk:k≤1000000)(hl:l≤1000000)(hge:M≤N) :
 Calls Tryz.prog 89 #[.agg #[.bool b,.slice A n c],.agg #[.bool (!b),.slice B m d]] w fun e w'=>IntPost w w' e (sg b (N - M)):=by
 have hne:(b == !b)=false := jzab
 have hs0:w.heap.size<w.heap.size+1+1+1 := j0i3
 have hs1:w.heap.size+1<w.heap.size+1+1+1 := j0i3
 have hs2 : ¬w.heap.size=w.heap.size+1+1 := j0i3
 have hs3 : ¬w.heap.size+1+1=w.heap.size := j0i3
 go_enter Tryz.func89,Tryz.ntmps89
 go_wp2_with fail
 refine Calls.mono ((lim_sub (k:=k) (m:=l) (N:=N) (M:=M) (by repeat (first | assumption | with_reducible refine Lim.drew_ ?_ | with_reducible refine Lim.alloc_ ?_ _ | with_reducible refine Lim.below ?_ jho2)) (by repeat (first | assumption | with_reducible refine Lim.drew_ ?_ | with_reducible refine Lim.alloc_ ?_ _ | with_reducible refine Lim.below ?_ jho2)) hk hl).mono fun e w' h=>h.yes hge) ?_
 rintro e w1 ⟨v1,rfl,h1,hb1⟩
 obtain⟨A1,n1,c1,rfl,hn1,h1⟩:=isNat_form h1
 obtain⟨hc1,hf1⟩:=bcell hb1
 have hz1_0:w.heap.size<w1.heap.size := jccs
 have hz1_1:w.heap.size+1<w1.heap.size := jccs
 have hz1_2:w.heap.size+1+1<w1.heap.size := jccs
 go_wp2_with fail
 refine Calls.mono (signed_any _ _ _ _ _ _ h1 hn1) ?_
 rintro e w2 ⟨v2,rfl,⟨m2,rfl,h2⟩,hb2⟩
 obtain⟨A2,n2,c2,rfl,hn2,h2⟩:=isNat_form h2
 obtain⟨hc2,hf2⟩:=bcell hb2
 have hz2_0:w.heap.size<w2.heap.size := j54r
 have hz2_1:w.heap.size+1<w2.heap.size := j54r
 have hz2_2:w.heap.size+1+1<w2.heap.size := j54r
 have b0:Below w.heap.size w (((w.alloc (.cells #[.bool b,.slice A n c] 34)).alloc (.cells #[.bool !b,.slice B m d] 34)).alloc (.cells #[.bool false,.slice none 0 0] 34)):=(((Below.refl _ _).alloc (Nat.le_refl _) _).alloc jupy _).alloc jb6b _
 have B2:Below w.heap.size w w2:=((b0.trans (hb1.mono jb6b)).trans (hb2.mono j0i3))
 have x0:w2.cell? ⟨w.heap.size+1+1,0,none⟩=some (.bool false) := jei1
 have x1:w2.cell? ⟨w.heap.size+1+1,1,none⟩=some (.slice none 0 0) := jb9u
 have HE:=Lib.hid (int_end (w:=w) (g:=w.heap.size+1+1) B2 j0i3 x0 x1 h2 rfl)
 have hr1:=first_cell x0
 have hr2:=second_cell x1
 clear x0 x1 h2
 go_wp2
 exact bodyPost_ret (v := .agg #[.bool (decide (sg b (N - M)<0)),.slice A2 n2 c2]) jbuq rfl HE.out
set_option maxHeartbeats 2000000 in
theorem wadd_lt(b:Bool)(A:Option Addr)(n c N k:Nat)(B:Option Addr)(m d M l:Nat)(w:World)(h:Lim k w (.slice A n c) N)(h':Lim l w (.slice B m d) M)(hk:k≤1000000)(hl:l≤1000000)(hlt:N<M) :
 Calls Tryz.prog 89 #[.agg #[.bool b,.slice A n c],.agg #[.bool (!b),.slice B m d]] w fun e w'=>IntPost w w' e (sg (!b) (M - N)):=by
 have hne:(b == !b)=false := jzab
 have hs0:w.heap.size<w.heap.size+1+1+1 := j0i3
 have hs1:w.heap.size+1<w.heap.size+1+1+1 := j0i3
 have hs2 : ¬w.heap.size=w.heap.size+1+1 := j0i3
 have hs3 : ¬w.heap.size+1+1=w.heap.size := j0i3
 go_enter Tryz.func89,Tryz.ntmps89
 go_wp2_with fail
 refine Calls.mono ((lim_sub (k:=k) (m:=l) (N:=N) (M:=M) (by repeat (first | assumption | with_reducible refine Lim.drew_ ?_ | with_reducible refine Lim.alloc_ ?_ _ | with_reducible refine Lim.below ?_ jho2)) (by repeat (first | assumption | with_reducible refine Lim.drew_ ?_ | with_reducible refine Lim.alloc_ ?_ _ | with_reducible refine Lim.below ?_ jho2)) hk hl).mono fun e w' h=>h.no hlt) ?_
 rintro e w1 ⟨v1,rfl,h1,hb1⟩
 obtain⟨hc1,hf1⟩:=bcell hb1
 have hz1_0:w.heap.size<w1.heap.size := jccs
 have hz1_1:w.heap.size+1<w1.heap.size := jccs
 have hz1_2:w.heap.size+1+1<w1.heap.size := jccs
 go_wp2_with fail
 refine Calls.mono ((lim_sub (k:=l) (m:=k) (N:=M) (M:=N) (by repeat (first | assumption | with_reducible refine Lim.drew_ ?_ | with_reducible refine Lim.alloc_ ?_ _ | with_reducible refine Lim.below ?_ jho2)) (by repeat (first | assumption | with_reducible refine Lim.drew_ ?_ | with_reducible refine Lim.alloc_ ?_ _ | with_reducible refine Lim.below ?_ jho2)) hl hk).mono fun e w' h=>h.yes j0i3) ?_
 rintro e w2 ⟨v2,rfl,h2,hb2⟩
 obtain⟨A2,n2,c2,rfl,hn2,h2⟩:=isNat_form h2
 obtain⟨hc2,hf2⟩:=bcell hb2
 have hz2_0:w.heap.size<w2.heap.size := j54r
 have hz2_1:w.heap.size+1<w2.heap.size := j54r
 have hz2_2:w.heap.size+1+1<w2.heap.size := j54r
 go_wp2_with fail
 refine Calls.mono (signed_any _ _ _ _ _ _ h2 hn2) ?_
 rintro e w3 ⟨v3,rfl,⟨m3,rfl,h3⟩,hb3⟩
 obtain⟨A3,n3,c3,rfl,hn3,h3⟩:=isNat_form h3
 obtain⟨hc3,hf3⟩:=bcell hb3
 have hz3_0:w.heap.size<w3.heap.size:=(by have:=hb3.size;omega)
 have hz3_1:w.heap.size+1<w3.heap.size:=(by have:=hb3.size;omega)
 have hz3_2:w.heap.size+1+1<w3.heap.size:=(by have:=hb3.size;omega)
 have b0:Below w.heap.size w (((w.alloc (.cells #[.bool b,.slice A n c] 34)).alloc (.cells #[.bool !b,.slice B m d] 34)).alloc (.cells #[.bool false,.slice none 0 0] 34)):=(((Below.refl _ _).alloc (Nat.le_refl _) _).alloc jupy _).alloc jb6b _
 have B2:Below w.heap.size w w3:=(((b0.trans (hb1.mono jb6b)).trans (hb2.mono j0i3)).trans (hb3.mono j0i3))
 have x0:w3.cell? ⟨w.heap.size+1+1,0,none⟩=some (.bool false):=by rw [hc3 _ _ hz2_2,hc2 _ _ hz1_2,hc1 _ _ jupy];exact(res_new _ _ jupy _ _).1
 have x1:w3.cell? ⟨w.heap.size+1+1,1,none⟩=some (.slice none 0 0):=by rw [hc3 _ _ hz2_2,hc2 _ _ hz1_2,hc1 _ _ jupy];exact(res_new _ _ jupy _ _).2
 have HE:=Lib.hid (int_end (w:=w) (g:=w.heap.size+1+1) B2 j0i3 x0 x1 h3 rfl)
 have hr1:=first_cell x0
 have hr2:=second_cell x1
 clear x0 x1 h3
 go_wp2
 exact bodyPost_ret (v := .agg #[.bool (decide (sg (!b) (M - N)<0)),.slice A3 n3 c3]) jbuq rfl HE.out
set_option maxHeartbeats 2000000 in
theorem mul_any_(b b' s:Bool)(A:Option Addr)(n c N k:Nat)(B:Option Addr)(m d M l:Nat)(w:World)(h:Lim k w (.slice A n c) N)(h':Lim l w (.slice B m d) M)(hk:k≤1000000)(hl:l≤1000000)(hs:(b != b')=s) :
 Calls Tryz.prog 90 #[.agg #[.bool b,.slice A n c],.agg #[.bool b',.slice B m d]] w fun e w'=>IntPost w w' e (sg s (N*M)):=by
 have hs':(!b == b')=s:=by rw [← hs];cases b <;> cases b' <;> rfl
 have hs0:w.heap.size<w.heap.size+1+1+1 := j0i3
 have hs1:w.heap.size+1<w.heap.size+1+1+1 := j0i3
 have hs2 : ¬w.heap.size=w.heap.size+1+1 := j0i3
 have hs3 : ¬w.heap.size+1+1=w.heap.size := j0i3
 go_enter Tryz.func90,Tryz.ntmps90
 go_wp2
 go_region_held3 (fun w'=>w'.cell? ⟨w.heap.size,0,none⟩=some (.bool b)∧w'.cell? ⟨w.heap.size,1,none⟩=some (.slice A n c)∧w'.cell? ⟨w.heap.size+1,0,none⟩=some (.bool b')∧w'.cell? ⟨w.heap.size+1,1,none⟩=some (.slice B m d)) (go_keep)
  (first
   |(go_at_call 111;refine Calls.mono (lim_mul (k:=k) (m:=l) (N:=N) (M:=M) (by repeat (first | assumption | with_reducible refine Lim.drew_ ?_ | with_reducible refine Lim.alloc_ ?_ _ | with_reducible refine Lim.below ?_ jho2)) (by repeat (first | assumption | with_reducible refine Lim.drew_ ?_ | with_reducible refine Lim.alloc_ ?_ _ | with_reducible refine Lim.below ?_ jho2)) hk hl) ?_;rintro e w1 ⟨v1,rfl,h1,hb1⟩;obtain⟨A1,n1,c1,rfl,hn1,h1⟩:=isNat_form h1;obtain⟨hc1,hf1⟩:=bcell hb1;have hz1_0:w.heap.size<w1.heap.size := jccs;have hz1_1:w.heap.size+1<w1.heap.size := jccs;have hz1_2:w.heap.size+1+1<w1.heap.size := jccs)
   |(go_at_call 101;refine Calls.mono (signed_any _ _ _ _ _ _ h1 hn1) ?_;rintro e w2 ⟨v2,rfl,⟨m2,rfl,h2⟩,hb2⟩;obtain⟨A2,n2,c2,rfl,hn2,h2⟩:=isNat_form h2;obtain⟨hc2,hf2⟩:=bcell hb2;have hz2_0:w.heap.size<w2.heap.size := j54r;have hz2_1:w.heap.size+1<w2.heap.size := j54r;have hz2_2:w.heap.size+1+1<w2.heap.size := j54r))
 have b0:Below w.heap.size w (((w.alloc (.cells #[.bool b,.slice A n c] 34)).alloc (.cells #[.bool b',.slice B m d] 34)).alloc (.cells #[.bool false,.slice none 0 0] 34)):=(((Below.refl _ _).alloc (Nat.le_refl _) _).alloc jupy _).alloc jb6b _
 have B2:Below w.heap.size w w2:=((b0.drew.trans (hb1.mono jb6b)).trans (hb2.mono j0i3))
 have x0:w2.cell? ⟨w.heap.size+1+1,0,none⟩=some (.bool false) := jei1
 have x1:w2.cell? ⟨w.heap.size+1+1,1,none⟩=some (.slice none 0 0) := jb9u
 have HE:=Lib.hid (int_end (w:=w) (g:=w.heap.size+1+1) B2 j0i3 x0 x1 h2 rfl)
 have hr1:=first_cell x0
 have hr2:=second_cell x1
 clear x0 x1 h2
 go_wp2
 exact bodyPost_ret (v := .agg #[.bool (decide (sg s (N*M)<0)),.slice A2 n2 c2]) (by simp [results,Tryz.results90,go_sem,hr1,hr2]) rfl HE.out
theorem li_add {k l:Nat} {w:World} {v v':Value} {X Y:Int}(h:LimI k w v X)(h':LimI l w v' Y)(hk:k≤1000000)(hl:l≤1000000):Calls Tryz.prog 89 #[v,v'] w fun e w'=>IntPost w w' e (X+Y):=by
 obtain⟨b,m,N,rfl,⟨A,n,c,f,rfl,hr⟩,rfl⟩:=h
 obtain⟨b',m',M,rfl,⟨B,n',c',f',rfl,hr'⟩,rfl⟩:=h'
 by_cases hb:b=b'
 ·subst hb
  rw [sg_add]
  exact add_same b A n c N k B n' c' M l w ⟨A,n,c,f,rfl,hr⟩ ⟨B,n',c',f',rfl,hr'⟩ hk hl
 ·obtain rfl:b' = !b:=by cases b <;> cases b' <;> simp_all
  by_cases hle:M≤N
  ·rw [sg_sub_ge b hle]
   exact wadd_ge b A n c N k B n' c' M l w ⟨A,n,c,f,rfl,hr⟩ ⟨B,n',c',f',rfl,hr'⟩ hk hl hle
  ·rw [sg_sub_lt b j0i3]
   exact wadd_lt b A n c N k B n' c' M l w ⟨A,n,c,f,rfl,hr⟩ ⟨B,n',c',f',rfl,hr'⟩ hk hl j0i3
theorem li_mul {k l:Nat} {w:World} {v v':Value} {X Y:Int}(h:LimI k w v X)(h':LimI l w v' Y)(hk:k≤1000000)(hl:l≤1000000):Calls Tryz.prog 90 #[v,v'] w fun e w'=>IntPost w w' e (X*Y):=by
 obtain⟨b,m,N,rfl,⟨A,n,c,f,rfl,hr⟩,rfl⟩:=h
 obtain⟨b',m',M,rfl,⟨B,n',c',f',rfl,hr'⟩,rfl⟩:=h'
 rw [sg_mul]
 exact mul_any_ b b' _ A n c N k B n' c' M l w ⟨A,n,c,f,rfl,hr⟩ ⟨B,n',c',f',rfl,hr'⟩ hk hl rfl
end Go.Proofs.YtgilnmhejjpleaaGreat
namespace Go.Proofs.YtgilnmhejjpleaaGreat
open Go.RowKit
attribute [local go_sem ↓] Go.wp_at_zero Go.wp_at_succ
def cmpI(X Y:Int):Int:=if X<Y then -1 else if X=Y then 0 else 1
def CmpPostI(w w':World)(e:Ending)(X Y:Int):Prop:=e = .returned (.int .i64 (cmpI X Y))∧Below w.heap.size w w'
theorem sg_le(b:Bool)(N:Nat)(h:decide (sg b N<0)=false):sg b N=N:=by
 have:=of_decide_eq_false h
 unfold sg at *
 cases b
 ·rfl
 ·simp at this ⊢;omega
theorem sg_lt(b:Bool)(N:Nat)(h:decide (sg b N<0)=true):sg b N = -(N:Int)∧0<N:=by
 have:=of_decide_eq_true h
 unfold sg at *
 cases b
 ·simp at this;omega
 ·simp at this ⊢;omega
theorem cmpI_nn(N M:Nat):cmpI N M=cmpN N M:=by
 unfold cmpI cmpN
 by_cases a:N<M
 ·rw [if_pos j0i3,if_pos a]
 ·rw [if_neg j0i3,if_neg a]
  by_cases b:N=M
  ·rw [if_pos j0i3,if_pos b]
  ·rw [if_neg j0i3,if_neg b]
theorem cmpI_neg(N M:Nat):cmpI (-(N:Int)) (-(M:Int))=cmpN M N:=by
 unfold cmpI cmpN
 by_cases a:M<N
 ·rw [if_pos j0i3,if_pos a]
 ·rw [if_neg j0i3,if_neg a]
  by_cases b:M=N
  ·rw [if_pos j0i3,if_pos b]
  ·rw [if_neg j0i3,if_neg b]
set_option maxHeartbeats 2000000 in
theorem cmp_tt(b b':Bool)(A:Option Addr)(n c N k:Nat)(B:Option Addr)(m d M l:Nat)(w:World)(h:Lim k w (.slice A n c) N)(h':Lim l w (.slice B m d) M)(hk:k≤1000000)(hl:l≤1000000)(r1:decide (sg b N<0)=true)(r2:decide (sg b' M<0)=true) :
 Calls Tryz.prog 95 #[.agg #[.bool b,.slice A n c],.agg #[.bool b',.slice B m d]] w fun e w'=>e = .returned (.int .i64 (cmpN M N))∧Below w.heap.size w w':=by
 have hs0:w.heap.size<w.heap.size+1+1 := j0i3
 have CA:=Lib.hid (fun (W:World) (hW:Lim k W (.slice A n c) N)=>(isBelow_any b A n c N k W hW hk))
 have CB:=Lib.hid (fun (W:World) (hW:Lim l W (.slice B m d) M)=>(isBelow_any b' B m d M l W hW hl))
 rw [r1] at CA
 rw [r2] at CB
 clear r1 r2
 go_enter Tryz.func95,Tryz.ntmps95
 go_wp2
 go_region_held3 (fun w'=>w'.cell? ⟨w.heap.size,0,none⟩=some (.bool b)∧w'.cell? ⟨w.heap.size,1,none⟩=some (.slice A n c)∧w'.cell? ⟨w.heap.size+1,0,none⟩=some (.bool b')∧w'.cell? ⟨w.heap.size+1,1,none⟩=some (.slice B m d)) (go_keep)
  (first
   |(go_at_call 116;with_reducible refine Calls.mono (CA.out _ (by repeat (first | assumption | with_reducible refine Lim.drew_ ?_ | with_reducible refine Lim.alloc_ ?_ _ | with_reducible refine Lim.below ?_ jho2))) ?_;rintro e w1 ⟨rfl,hb1⟩;obtain⟨hc1,hf1⟩:=bcell hb1;have hz1_0:w.heap.size<w1.heap.size := jct3;have hz1_1:w.heap.size+1<w1.heap.size := jct3)
   |(go_at_call 116;with_reducible refine Calls.mono (CB.out _ (by repeat (first | assumption | with_reducible refine Lim.drew_ ?_ | with_reducible refine Lim.alloc_ ?_ _ | with_reducible refine Lim.below ?_ jho2))) ?_;rintro e w2 ⟨rfl,hb2⟩;obtain⟨hc2,hf2⟩:=bcell hb2;have hz2_0:w.heap.size<w2.heap.size := j9ab;have hz2_1:w.heap.size+1<w2.heap.size := j9ab))
 all_goals
  clear CA CB
  go_wp2_with fail
  refine Calls.mono (lim_cmp (k:=l) (m:=k) (N:=M) (M:=N) (by repeat (first | assumption | with_reducible refine Lim.drew_ ?_ | with_reducible refine Lim.alloc_ ?_ _ | with_reducible refine Lim.below ?_ jho2)) (by repeat (first | assumption | with_reducible refine Lim.drew_ ?_ | with_reducible refine Lim.alloc_ ?_ _ | with_reducible refine Lim.below ?_ jho2)) hl hk) ?_
  rintro e w3 ⟨rfl,hb3⟩
  have hz3:=hb3.size
  have HB0:Below w.heap.size w w3:=(by
   repeat first
    |exact Below.refl _ _
    |exact(Below.refl _ _).drew
    |(with_reducible refine Below.trans ?_ (Below.mono jho2 ?_))
    |(with_reducible refine Below.alloc_ ?_ ?_ _)
    |(with_reducible refine Below.drew ?_)
    |exact Nat.le_refl _
    |omega
    |focus (simp <;> omega))
  have HB:=Lib.hid HB0
  clear HB0 hb1 hb2 hb3 hc1 hf1 hc2 hf2
  go_wp2
  go_ret
  exact⟨rfl,HB.out⟩
set_option maxHeartbeats 2000000 in
theorem cmp_ff(b b':Bool)(A:Option Addr)(n c N k:Nat)(B:Option Addr)(m d M l:Nat)(w:World)(h:Lim k w (.slice A n c) N)(h':Lim l w (.slice B m d) M)(hk:k≤1000000)(hl:l≤1000000)(r1:decide (sg b N<0)=false)(r2:decide (sg b' M<0)=false) :
 Calls Tryz.prog 95 #[.agg #[.bool b,.slice A n c],.agg #[.bool b',.slice B m d]] w fun e w'=>e = .returned (.int .i64 (cmpN N M))∧Below w.heap.size w w':=by
 have hs0:w.heap.size<w.heap.size+1+1 := j0i3
 have CA:=Lib.hid (fun (W:World) (hW:Lim k W (.slice A n c) N)=>(isBelow_any b A n c N k W hW hk))
 have CB:=Lib.hid (fun (W:World) (hW:Lim l W (.slice B m d) M)=>(isBelow_any b' B m d M l W hW hl))
 rw [r1] at CA
 rw [r2] at CB
 clear r1 r2
 go_enter Tryz.func95,Tryz.ntmps95
 go_wp2
 go_region_held3 (fun w'=>w'.cell? ⟨w.heap.size,0,none⟩=some (.bool b)∧w'.cell? ⟨w.heap.size,1,none⟩=some (.slice A n c)∧w'.cell? ⟨w.heap.size+1,0,none⟩=some (.bool b')∧w'.cell? ⟨w.heap.size+1,1,none⟩=some (.slice B m d)) (go_keep)
  (first
   |(go_at_call 116;with_reducible refine Calls.mono (CA.out _ (by repeat (first | assumption | with_reducible refine Lim.drew_ ?_ | with_reducible refine Lim.alloc_ ?_ _ | with_reducible refine Lim.below ?_ jho2))) ?_;rintro e w1 ⟨rfl,hb1⟩;obtain⟨hc1,hf1⟩:=bcell hb1;have hz1_0:w.heap.size<w1.heap.size := jct3;have hz1_1:w.heap.size+1<w1.heap.size := jct3)
   |(go_at_call 116;with_reducible refine Calls.mono (CB.out _ (by repeat (first | assumption | with_reducible refine Lim.drew_ ?_ | with_reducible refine Lim.alloc_ ?_ _ | with_reducible refine Lim.below ?_ jho2))) ?_;rintro e w2 ⟨rfl,hb2⟩;obtain⟨hc2,hf2⟩:=bcell hb2;have hz2_0:w.heap.size<w2.heap.size := j9ab;have hz2_1:w.heap.size+1<w2.heap.size := j9ab))
 all_goals
  clear CA CB
  go_wp2_with fail
  refine Calls.mono (lim_cmp (k:=k) (m:=l) (N:=N) (M:=M) (by repeat (first | assumption | with_reducible refine Lim.drew_ ?_ | with_reducible refine Lim.alloc_ ?_ _ | with_reducible refine Lim.below ?_ jho2)) (by repeat (first | assumption | with_reducible refine Lim.drew_ ?_ | with_reducible refine Lim.alloc_ ?_ _ | with_reducible refine Lim.below ?_ jho2)) hk hl) ?_
  rintro e w3 ⟨rfl,hb3⟩
  have hz3:=hb3.size
  have HB0:Below w.heap.size w w3:=(by
   repeat first
    |exact Below.refl _ _
    |exact(Below.refl _ _).drew
    |(with_reducible refine Below.trans ?_ (Below.mono jho2 ?_))
    |(with_reducible refine Below.alloc_ ?_ ?_ _)
    |(with_reducible refine Below.drew ?_)
    |exact Nat.le_refl _
    |omega
    |focus (simp <;> omega))
  have HB:=Lib.hid HB0
  clear HB0 hb1 hb2 hb3 hc1 hf1 hc2 hf2
  go_wp2
  go_ret
  exact⟨rfl,HB.out⟩
set_option maxHeartbeats 2000000 in
theorem cmp_tf(b b':Bool)(A:Option Addr)(n c N k:Nat)(B:Option Addr)(m d M l:Nat)(w:World)(h:Lim k w (.slice A n c) N)(h':Lim l w (.slice B m d) M)(hk:k≤1000000)(hl:l≤1000000)(r1:decide (sg b N<0)=true)(r2:decide (sg b' M<0)=false) :
 Calls Tryz.prog 95 #[.agg #[.bool b,.slice A n c],.agg #[.bool b',.slice B m d]] w fun e w'=>e = .returned (.int .i64 (-1))∧Below w.heap.size w w':=by
 have hs0:w.heap.size<w.heap.size+1+1 := j0i3
 have CA:=Lib.hid (fun (W:World) (hW:Lim k W (.slice A n c) N)=>(isBelow_any b A n c N k W hW hk))
 have CB:=Lib.hid (fun (W:World) (hW:Lim l W (.slice B m d) M)=>(isBelow_any b' B m d M l W hW hl))
 rw [r1] at CA
 rw [r2] at CB
 clear r1 r2
 go_enter Tryz.func95,Tryz.ntmps95
 go_wp2
 go_region_held3 (fun w'=>w'.cell? ⟨w.heap.size,0,none⟩=some (.bool b)∧w'.cell? ⟨w.heap.size,1,none⟩=some (.slice A n c)∧w'.cell? ⟨w.heap.size+1,0,none⟩=some (.bool b')∧w'.cell? ⟨w.heap.size+1,1,none⟩=some (.slice B m d)) (go_keep)
  (first
   |(go_at_call 116;with_reducible refine Calls.mono (CA.out _ (by repeat (first | assumption | with_reducible refine Lim.drew_ ?_ | with_reducible refine Lim.alloc_ ?_ _ | with_reducible refine Lim.below ?_ jho2))) ?_;rintro e w1 ⟨rfl,hb1⟩;obtain⟨hc1,hf1⟩:=bcell hb1;have hz1_0:w.heap.size<w1.heap.size := jct3;have hz1_1:w.heap.size+1<w1.heap.size := jct3)
   |(go_at_call 116;with_reducible refine Calls.mono (CB.out _ (by repeat (first | assumption | with_reducible refine Lim.drew_ ?_ | with_reducible refine Lim.alloc_ ?_ _ | with_reducible refine Lim.below ?_ jho2))) ?_;rintro e w2 ⟨rfl,hb2⟩;obtain⟨hc2,hf2⟩:=bcell hb2;have hz2_0:w.heap.size<w2.heap.size := j9ab;have hz2_1:w.heap.size+1<w2.heap.size := j9ab))
 all_goals
  clear CA CB
  have HB:Hid (Below w.heap.size w w1∧Below w.heap.size w w2):=⟨(by
   repeat first
    |exact Below.refl _ _
    |exact(Below.refl _ _).drew
    |(with_reducible refine Below.trans ?_ (Below.mono jho2 ?_))
    |(with_reducible refine Below.alloc_ ?_ ?_ _)
    |(with_reducible refine Below.drew ?_)
    |exact Nat.le_refl _
    |omega
    |focus (simp <;> omega)),(by
   repeat first
    |exact Below.refl _ _
    |exact(Below.refl _ _).drew
    |(with_reducible refine Below.trans ?_ (Below.mono jho2 ?_))
    |(with_reducible refine Below.alloc_ ?_ ?_ _)
    |(with_reducible refine Below.drew ?_)
    |exact Nat.le_refl _
    |omega
    |focus (simp <;> omega))⟩
  clear hb1 hb2 hc1 hf1 hc2 hf2
  go_wp2
  go_ret
  exact⟨rfl,by first | exact HB.out.1 | exact HB.out.2⟩
set_option maxHeartbeats 2000000 in
theorem cmp_ft(b b':Bool)(A:Option Addr)(n c N k:Nat)(B:Option Addr)(m d M l:Nat)(w:World)(h:Lim k w (.slice A n c) N)(h':Lim l w (.slice B m d) M)(hk:k≤1000000)(hl:l≤1000000)(r1:decide (sg b N<0)=false)(r2:decide (sg b' M<0)=true) :
 Calls Tryz.prog 95 #[.agg #[.bool b,.slice A n c],.agg #[.bool b',.slice B m d]] w fun e w'=>e = .returned (.int .i64 (1))∧Below w.heap.size w w':=by
 have hs0:w.heap.size<w.heap.size+1+1 := j0i3
 have CA:=Lib.hid (fun (W:World) (hW:Lim k W (.slice A n c) N)=>(isBelow_any b A n c N k W hW hk))
 have CB:=Lib.hid (fun (W:World) (hW:Lim l W (.slice B m d) M)=>(isBelow_any b' B m d M l W hW hl))
 rw [r1] at CA
 rw [r2] at CB
 clear r1 r2
 go_enter Tryz.func95,Tryz.ntmps95
 go_wp2
 go_region_held3 (fun w'=>w'.cell? ⟨w.heap.size,0,none⟩=some (.bool b)∧w'.cell? ⟨w.heap.size,1,none⟩=some (.slice A n c)∧w'.cell? ⟨w.heap.size+1,0,none⟩=some (.bool b')∧w'.cell? ⟨w.heap.size+1,1,none⟩=some (.slice B m d)) (go_keep)
  (first
   |(go_at_call 116;with_reducible refine Calls.mono (CA.out _ (by repeat (first | assumption | with_reducible refine Lim.drew_ ?_ | with_reducible refine Lim.alloc_ ?_ _ | with_reducible refine Lim.below ?_ jho2))) ?_;rintro e w1 ⟨rfl,hb1⟩;obtain⟨hc1,hf1⟩:=bcell hb1;have hz1_0:w.heap.size<w1.heap.size := jct3;have hz1_1:w.heap.size+1<w1.heap.size := jct3)
   |(go_at_call 116;with_reducible refine Calls.mono (CB.out _ (by repeat (first | assumption | with_reducible refine Lim.drew_ ?_ | with_reducible refine Lim.alloc_ ?_ _ | with_reducible refine Lim.below ?_ jho2))) ?_;rintro e w2 ⟨rfl,hb2⟩;obtain⟨hc2,hf2⟩:=bcell hb2;have hz2_0:w.heap.size<w2.heap.size := j9ab;have hz2_1:w.heap.size+1<w2.heap.size := j9ab))
 all_goals
  clear CA CB
  have HB:Hid (Below w.heap.size w w1∧Below w.heap.size w w2):=⟨(by
   repeat first
    |exact Below.refl _ _
    |exact(Below.refl _ _).drew
    |(with_reducible refine Below.trans ?_ (Below.mono jho2 ?_))
    |(with_reducible refine Below.alloc_ ?_ ?_ _)
    |(with_reducible refine Below.drew ?_)
    |exact Nat.le_refl _
    |omega
    |focus (simp <;> omega)),(by
   repeat first
    |exact Below.refl _ _
    |exact(Below.refl _ _).drew
    |(with_reducible refine Below.trans ?_ (Below.mono jho2 ?_))
    |(with_reducible refine Below.alloc_ ?_ ?_ _)
    |(with_reducible refine Below.drew ?_)
    |exact Nat.le_refl _
    |omega
    |focus (simp <;> omega))⟩
  clear hb1 hb2 hc1 hf1 hc2 hf2
  go_wp2
  go_ret
  exact⟨rfl,by first | exact HB.out.1 | exact HB.out.2⟩
theorem li_cmp {k l:Nat} {w:World} {v v':Value} {X Y:Int}(h:LimI k w v X)(h':LimI l w v' Y)(hk:k≤1000000)(hl:l≤1000000):Calls Tryz.prog 95 #[v,v'] w fun e w'=>CmpPostI w w' e X Y:=by
 obtain⟨b,m,N,rfl,⟨A,n,c,f,rfl,hr⟩,rfl⟩:=h
 obtain⟨b',m',M,rfl,⟨B,n',c',f',rfl,hr'⟩,rfl⟩:=h'
 have H:Lim k w (.slice A n c) N:=⟨A,n,c,f,rfl,hr⟩
 have H':Lim l w (.slice B n' c') M:=⟨B,n',c',f',rfl,hr'⟩
 unfold CmpPostI
 cases r1:decide (sg b N<0) <;> cases r2:decide (sg b' M<0)
 ·rw [sg_le b N r1,sg_le b' M r2,cmpI_nn]
  exact cmp_ff b b' A n c N k B n' c' M l w H H' hk hl r1 r2
 ·have e:cmpI (sg b N) (sg b' M)=1:=by
   have a1:=sg_le b N r1
   have a2:=sg_lt b' M r2
   unfold cmpI
   rw [if_neg j0i3,if_neg j0i3]
  rw [e]
  exact cmp_ft b b' A n c N k B n' c' M l w H H' hk hl r1 r2
 ·have e:cmpI (sg b N) (sg b' M) = -1:=by
   have a1:=sg_lt b N r1
   have a2:=sg_le b' M r2
   unfold cmpI
   rw [if_pos j0i3]
  rw [e]
  exact cmp_tf b b' A n c N k B n' c' M l w H H' hk hl r1 r2
 ·rw [(sg_lt b N r1).1,(sg_lt b' M r2).1,cmpI_neg]
  exact cmp_tt b b' A n c N k B n' c' M l w H H' hk hl r1 r2
end Go.Proofs.YtgilnmhejjpleaaGreat
