/- Contracts of whole: Sub, Cmp. -/
import Derived.Test.YtgilnmhejjpleaaGreatPWc
namespace Go.Proofs.YtgilnmhejjpleaaGreat
open Go.RowKit
attribute [local go_sem ↓] Go.wp_at_zero Go.wp_at_succ
theorem j08 {P:Prop}(h:P:=by have := hb1.size; (try simp at this); omega):P:=h
theorem j09 {P:Prop}(h:P:=by have := hb2.size; (try simp at this); omega):P:=h
def cmpI(X Y:Int):Int:=if X<Y then -1 else if X=Y then 0 else 1
def CmpPostI(w w':World)(e:Ending)(X Y:Int):Prop:=e = .returned (.int .i64 (cmpI X Y))∧Below w.heap.size w w'
theorem sg_le(b:Bool)(N:Nat)(h:decide (sg b N<0)=false):sg b N=N:=by
 have:=of_decide_eq_false h
 unfold sg at *
 cases b
 ·rfl
 ·simp at this ⊢;omega
theorem sg_lt(b:Bool)(N:Nat)(h:decide (sg b N<0)=true):sg b N = -(N:Int)∧0<N:=by
 have:=of_decide_eq_true h
 unfold sg at *
 cases b
 ·simp at this;omega
 ·simp at this ⊢;omega
theorem cmpI_nn(N M:Nat):cmpI N M=cmpN N M:=by
 unfold cmpI cmpN
 by_cases a:N<M
 ·rw [if_pos j0a,if_pos a]
 ·rw [if_neg j0a,if_neg a]
  by_cases b:N=M
  ·rw [if_pos j0a,if_pos b]
  ·rw [if_neg j0a,if_neg b]
theorem cmpI_neg(N M:Nat):cmpI (-(N:Int)) (-(M:Int))=cmpN M N:=by
 unfold cmpI cmpN
 by_cases a:M<N
 ·rw [if_pos j0a,if_pos a]
 ·rw [if_neg j0a,if_neg a]
  by_cases b:M=N
  ·rw [if_pos j0a,if_pos b]
  ·rw [if_neg j0a,if_neg b]
set_option maxHeartbeats 2000000 in
theorem cmp_tt(b b':Bool)(A:Option Addr)(n c N k:Nat)(B:Option Addr)(m d M l:Nat)(w:World)(h:Lim k w (.slice A n c) N)(h':Lim l w (.slice B m d) M)(hk:k≤1000000)(hl:l≤1000000)(r1:decide (sg b N<0)=true)(r2:decide (sg b' M<0)=true) :
 Calls Tryz.prog 95 #[.agg #[.bool b,.slice A n c],.agg #[.bool b',.slice B m d]] w fun e w'=>e = .returned (.int .i64 (cmpN M N))∧Below w.heap.size w w':=by
 have hs0:w.heap.size<w.heap.size+1+1 := j0a
 have CA:=Lib.hid (fun (W:World) (hW:Lim k W (.slice A n c) N)=>(isBelow_any b A n c N k W hW hk))
 have CB:=Lib.hid (fun (W:World) (hW:Lim l W (.slice B m d) M)=>(isBelow_any b' B m d M l W hW hl))
 rw [r1] at CA
 rw [r2] at CB
 clear r1 r2
 go_enter Tryz.func95,Tryz.ntmps95
 go_wp2
 go_region_held3 (fun w'=>w'.cell? ⟨w.heap.size,0,none⟩=some (.bool b)∧w'.cell? ⟨w.heap.size,1,none⟩=some (.slice A n c)∧w'.cell? ⟨w.heap.size+1,0,none⟩=some (.bool b')∧w'.cell? ⟨w.heap.size+1,1,none⟩=some (.slice B m d)) (go_keep)
  (first
   |(go_at_call 116;with_reducible refine Calls.mono (CA.out _ jc0) ?_;rintro e w1 ⟨rfl,hb1⟩;obtain⟨hc1,hf1⟩:=bcell hb1;have hz1_0:w.heap.size<w1.heap.size := j08;have hz1_1:w.heap.size+1<w1.heap.size := j08)
   |(go_at_call 116;with_reducible refine Calls.mono (CB.out _ jc0) ?_;rintro e w2 ⟨rfl,hb2⟩;obtain⟨hc2,hf2⟩:=bcell hb2;have hz2_0:w.heap.size<w2.heap.size := j09;have hz2_1:w.heap.size+1<w2.heap.size := j09))
 all_goals
  clear CA CB
  go_wp2_with fail
  refine Calls.mono (lim_cmp (k:=l) (m:=k) (N:=M) (M:=N) jc0 jc0 hl hk) ?_
  rintro e w3 ⟨rfl,hb3⟩
  have hz3:=hb3.size
  have HB0:Below w.heap.size w w3:=(by
   repeat first
    |exact Below.refl _ _
    |exact(Below.refl _ _).drew
    |(with_reducible refine Below.trans ?_ (Below.mono j0l ?_))
    |(with_reducible refine Below.alloc_ ?_ ?_ _)
    |(with_reducible refine Below.drew ?_)
    |exact Nat.le_refl _
    |omega
    |focus (simp <;> omega))
  have HB:=Lib.hid HB0
  clear HB0 hb1 hb2 hb3 hc1 hf1 hc2 hf2
  go_wp2
  go_ret
  exact⟨rfl,HB.out⟩
set_option maxHeartbeats 2000000 in
theorem cmp_ff(b b':Bool)(A:Option Addr)(n c N k:Nat)(B:Option Addr)(m d M l:Nat)(w:World)(h:Lim k w (.slice A n c) N)(h':Lim l w (.slice B m d) M)(hk:k≤1000000)(hl:l≤1000000)(r1:decide (sg b N<0)=false)(r2:decide (sg b' M<0)=false) :
 Calls Tryz.prog 95 #[.agg #[.bool b,.slice A n c],.agg #[.bool b',.slice B m d]] w fun e w'=>e = .returned (.int .i64 (cmpN N M))∧Below w.heap.size w w':=by
 have hs0:w.heap.size<w.heap.size+1+1 := j0a
 have CA:=Lib.hid (fun (W:World) (hW:Lim k W (.slice A n c) N)=>(isBelow_any b A n c N k W hW hk))
 have CB:=Lib.hid (fun (W:World) (hW:Lim l W (.slice B m d) M)=>(isBelow_any b' B m d M l W hW hl))
 rw [r1] at CA
 rw [r2] at CB
 clear r1 r2
 go_enter Tryz.func95,Tryz.ntmps95
 go_wp2
 go_region_held3 (fun w'=>w'.cell? ⟨w.heap.size,0,none⟩=some (.bool b)∧w'.cell? ⟨w.heap.size,1,none⟩=some (.slice A n c)∧w'.cell? ⟨w.heap.size+1,0,none⟩=some (.bool b')∧w'.cell? ⟨w.heap.size+1,1,none⟩=some (.slice B m d)) (go_keep)
  (first
   |(go_at_call 116;with_reducible refine Calls.mono (CA.out _ jc0) ?_;rintro e w1 ⟨rfl,hb1⟩;obtain⟨hc1,hf1⟩:=bcell hb1;have hz1_0:w.heap.size<w1.heap.size := j08;have hz1_1:w.heap.size+1<w1.heap.size := j08)
   |(go_at_call 116;with_reducible refine Calls.mono (CB.out _ jc0) ?_;rintro e w2 ⟨rfl,hb2⟩;obtain⟨hc2,hf2⟩:=bcell hb2;have hz2_0:w.heap.size<w2.heap.size := j09;have hz2_1:w.heap.size+1<w2.heap.size := j09))
 all_goals
  clear CA CB
  go_wp2_with fail
  refine Calls.mono (lim_cmp (k:=k) (m:=l) (N:=N) (M:=M) jc0 jc0 hk hl) ?_
  rintro e w3 ⟨rfl,hb3⟩
  have hz3:=hb3.size
  have HB0:Below w.heap.size w w3:=(by
   repeat first
    |exact Below.refl _ _
    |exact(Below.refl _ _).drew
    |(with_reducible refine Below.trans ?_ (Below.mono j0l ?_))
    |(with_reducible refine Below.alloc_ ?_ ?_ _)
    |(with_reducible refine Below.drew ?_)
    |exact Nat.le_refl _
    |omega
    |focus (simp <;> omega))
  have HB:=Lib.hid HB0
  clear HB0 hb1 hb2 hb3 hc1 hf1 hc2 hf2
  go_wp2
  go_ret
  exact⟨rfl,HB.out⟩
set_option maxHeartbeats 2000000 in
theorem cmp_tf(b b':Bool)(A:Option Addr)(n c N k:Nat)(B:Option Addr)(m d M l:Nat)(w:World)(h:Lim k w (.slice A n c) N)(h':Lim l w (.slice B m d) M)(hk:k≤1000000)(hl:l≤1000000)(r1:decide (sg b N<0)=true)(r2:decide (sg b' M<0)=false) :
 Calls Tryz.prog 95 #[.agg #[.bool b,.slice A n c],.agg #[.bool b',.slice B m d]] w fun e w'=>e = .returned (.int .i64 (-1))∧Below w.heap.size w w':=by
 have hs0:w.heap.size<w.heap.size+1+1 := j0a
 have CA:=Lib.hid (fun (W:World) (hW:Lim k W (.slice A n c) N)=>(isBelow_any b A n c N k W hW hk))
 have CB:=Lib.hid (fun (W:World) (hW:Lim l W (.slice B m d) M)=>(isBelow_any b' B m d M l W hW hl))
 rw [r1] at CA
 rw [r2] at CB
 clear r1 r2
 go_enter Tryz.func95,Tryz.ntmps95
 go_wp2
 go_region_held3 (fun w'=>w'.cell? ⟨w.heap.size,0,none⟩=some (.bool b)∧w'.cell? ⟨w.heap.size,1,none⟩=some (.slice A n c)∧w'.cell? ⟨w.heap.size+1,0,none⟩=some (.bool b')∧w'.cell? ⟨w.heap.size+1,1,none⟩=some (.slice B m d)) (go_keep)
  (first
   |(go_at_call 116;with_reducible refine Calls.mono (CA.out _ jc0) ?_;rintro e w1 ⟨rfl,hb1⟩;obtain⟨hc1,hf1⟩:=bcell hb1;have hz1_0:w.heap.size<w1.heap.size := j08;have hz1_1:w.heap.size+1<w1.heap.size := j08)
   |(go_at_call 116;with_reducible refine Calls.mono (CB.out _ jc0) ?_;rintro e w2 ⟨rfl,hb2⟩;obtain⟨hc2,hf2⟩:=bcell hb2;have hz2_0:w.heap.size<w2.heap.size := j09;have hz2_1:w.heap.size+1<w2.heap.size := j09))
 all_goals
  clear CA CB
  have HB:Hid (Below w.heap.size w w1∧Below w.heap.size w w2):=⟨(by
   repeat first
    |exact Below.refl _ _
    |exact(Below.refl _ _).drew
    |(with_reducible refine Below.trans ?_ (Below.mono j0l ?_))
    |(with_reducible refine Below.alloc_ ?_ ?_ _)
    |(with_reducible refine Below.drew ?_)
    |exact Nat.le_refl _
    |omega
    |focus (simp <;> omega)),(by
   repeat first
    |exact Below.refl _ _
    |exact(Below.refl _ _).drew
    |(with_reducible refine Below.trans ?_ (Below.mono j0l ?_))
    |(with_reducible refine Below.alloc_ ?_ ?_ _)
    |(with_reducible refine Below.drew ?_)
    |exact Nat.le_refl _
    |omega
    |focus (simp <;> omega))⟩
  clear hb1 hb2 hc1 hf1 hc2 hf2
  go_wp2
  go_ret
  exact⟨rfl,by first | exact HB.out.1 | exact HB.out.2⟩
set_option maxHeartbeats 2000000 in
theorem cmp_ft(b b':Bool)(A:Option Addr)(n c N k:Nat)(B:Option Addr)(m d M l:Nat)(w:World)(h:Lim k w (.slice A n c) N)(h':Lim l w (.slice B m d) M)(hk:k≤1000000)(hl:l≤1000000)(r1:decide (sg b N<0)=false)(r2:decide (sg b' M<0)=true) :
 Calls Tryz.prog 95 #[.agg #[.bool b,.slice A n c],.agg #[.bool b',.slice B m d]] w fun e w'=>e = .returned (.int .i64 (1))∧Below w.heap.size w w':=by
 have hs0:w.heap.size<w.heap.size+1+1 := j0a
 have CA:=Lib.hid (fun (W:World) (hW:Lim k W (.slice A n c) N)=>(isBelow_any b A n c N k W hW hk))
 have CB:=Lib.hid (fun (W:World) (hW:Lim l W (.slice B m d) M)=>(isBelow_any b' B m d M l W hW hl))
 rw [r1] at CA
 rw [r2] at CB
 clear r1 r2
 go_enter Tryz.func95,Tryz.ntmps95
 go_wp2
 go_region_held3 (fun w'=>w'.cell? ⟨w.heap.size,0,none⟩=some (.bool b)∧w'.cell? ⟨w.heap.size,1,none⟩=some (.slice A n c)∧w'.cell? ⟨w.heap.size+1,0,none⟩=some (.bool b')∧w'.cell? ⟨w.heap.size+1,1,none⟩=some (.slice B m d)) (go_keep)
  (first
   |(go_at_call 116;with_reducible refine Calls.mono (CA.out _ jc0) ?_;rintro e w1 ⟨rfl,hb1⟩;obtain⟨hc1,hf1⟩:=bcell hb1;have hz1_0:w.heap.size<w1.heap.size := j08;have hz1_1:w.heap.size+1<w1.heap.size := j08)
   |(go_at_call 116;with_reducible refine Calls.mono (CB.out _ jc0) ?_;rintro e w2 ⟨rfl,hb2⟩;obtain⟨hc2,hf2⟩:=bcell hb2;have hz2_0:w.heap.size<w2.heap.size := j09;have hz2_1:w.heap.size+1<w2.heap.size := j09))
 all_goals
  clear CA CB
  have HB:Hid (Below w.heap.size w w1∧Below w.heap.size w w2):=⟨(by
   repeat first
    |exact Below.refl _ _
    |exact(Below.refl _ _).drew
    |(with_reducible refine Below.trans ?_ (Below.mono j0l ?_))
    |(with_reducible refine Below.alloc_ ?_ ?_ _)
    |(with_reducible refine Below.drew ?_)
    |exact Nat.le_refl _
    |omega
    |focus (simp <;> omega)),(by
   repeat first
    |exact Below.refl _ _
    |exact(Below.refl _ _).drew
    |(with_reducible refine Below.trans ?_ (Below.mono j0l ?_))
    |(with_reducible refine Below.alloc_ ?_ ?_ _)
    |(with_reducible refine Below.drew ?_)
    |exact Nat.le_refl _
    |omega
    |focus (simp <;> omega))⟩
  clear hb1 hb2 hc1 hf1 hc2 hf2
  go_wp2
  go_ret
  exact⟨rfl,by first | exact HB.out.1 | exact HB.out.2⟩
theorem li_cmp {k l:Nat} {w:World} {v v':Value} {X Y:Int}(h:LimI k w v X)(h':LimI l w v' Y)(hk:k≤1000000)(hl:l≤1000000):Calls Tryz.prog 95 #[v,v'] w fun e w'=>CmpPostI w w' e X Y:=by
 obtain⟨b,m,N,rfl,⟨A,n,c,f,rfl,hr⟩,rfl⟩:=h
 obtain⟨b',m',M,rfl,⟨B,n',c',f',rfl,hr'⟩,rfl⟩:=h'
 have H:Lim k w (.slice A n c) N:=⟨A,n,c,f,rfl,hr⟩
 have H':Lim l w (.slice B n' c') M:=⟨B,n',c',f',rfl,hr'⟩
 unfold CmpPostI
 cases r1:decide (sg b N<0) <;> cases r2:decide (sg b' M<0)
 ·rw [sg_le b N r1,sg_le b' M r2,cmpI_nn]
  exact cmp_ff b b' A n c N k B n' c' M l w H H' hk hl r1 r2
 ·have e:cmpI (sg b N) (sg b' M)=1:=by
   have a1:=sg_le b N r1
   have a2:=sg_lt b' M r2
   unfold cmpI
   rw [if_neg j0a,if_neg j0a]
  rw [e]
  exact cmp_ft b b' A n c N k B n' c' M l w H H' hk hl r1 r2
 ·have e:cmpI (sg b N) (sg b' M) = -1:=by
   have a1:=sg_lt b N r1
   have a2:=sg_le b' M r2
   unfold cmpI
   rw [if_pos j0a]
  rw [e]
  exact cmp_tf b b' A n c N k B n' c' M l w H H' hk hl r1 r2
 ·rw [(sg_lt b N r1).1,(sg_lt b' M r2).1,cmpI_neg]
  exact cmp_tt b b' A n c N k B n' c' M l w H H' hk hl r1 r2
end Go.Proofs.YtgilnmhejjpleaaGreat
