/- Contracts: nearer, Gcd. -/
import Derived.Test.YtgilnmhejjpleaaGreatPLt
import Derived.Test.YtgilnmhejjpleaaGreatPLu
import Derived.Test.YtgilnmhejjpleaaGreatPNatE
namespace Go.Proofs.YtgilnmhejjpleaaGreat
open Go.RowKit
theorem jcn {P:Prop}(h:P:=by rw [← Int.natCast_mul, ← Int.natCast_add, Nat.div_add_mod']):P:=h
def Duo(B:Nat)(w:World)(va vb:Value)(X Y:Nat):Prop :=
 ∃ga na ca sa fa gb nb cb sb fb,va = .slice (some ⟨ga,0,none⟩) na ca∧vb = .slice (some ⟨gb,0,none⟩) nb cb∧B≤ga∧B≤gb∧ga≠gb∧na≤ca∧nb≤cb∧na≤sa∧nb≤sb∧Row .u32 117 w ga sa fa∧Row .u32 117 w gb sb fb∧
  (∀j,j<na→fa j<4294967296)∧(∀j,j<nb→fb j<4294967296)∧Trimmed fa na∧Trimmed fb nb∧num 4294967296 fa na=X∧num 4294967296 fb nb=Y
theorem Duo.isNat {B:Nat} {w:World} {va vb:Value} {X Y:Nat}(h:Duo B w va vb X Y):IsNat w va X∧IsNat w vb Y:=by
 obtain⟨ga,na,ca,sa,fa,gb,nb,cb,sb,fb,rfl,rfl,h1,h2,h3,h4,h5,h6,h7,h8,h9,h10,h11,h12,h13,h14,h15⟩:=h
 exact⟨⟨_,_,_,fa,rfl,h4,h8.rd0 h6,h10,h12,h14⟩,⟨_,_,_,fb,rfl,h5,h9.rd0 h7,h11,h13,h15⟩⟩
theorem Duo.below {B:Nat} {w w':World} {va vb:Value} {X Y:Nat}(h:Duo B w va vb X Y)(hb:Below w.heap.size w w'):Duo B w' va vb X Y:=by
 obtain⟨ga,na,ca,sa,fa,gb,nb,cb,sb,fb,h0,h0',h1,h2,h3,h4,h5,h6,h7,h8,h9,h10⟩:=h
 exact⟨ga,na,ca,sa,fa,gb,nb,cb,sb,fb,h0,h0',h1,h2,h3,h4,h5,h6,h7,h8.keep hb,h9.keep hb,h10⟩
theorem Duo.swap {B:Nat} {w:World} {va vb:Value} {X Y:Nat}(h:Duo B w va vb X Y):Duo B w vb va Y X:=by
 obtain⟨ga,na,ca,sa,fa,gb,nb,cb,sb,fb,h0,h0',h1,h2,h3,h4,h5,h6,h7,h8,h9,h10,h11,h12,h13,h14,h15⟩:=h
 exact⟨gb,nb,cb,sb,fb,ga,na,ca,sa,fa,h0',h0,h2,h1,Ne.symm h3,h5,h4,h7,h6,h9,h8,h11,h10,h13,h12,h15,h14⟩
def NearPost(B:Nat)(w w':World)(e:Ending)(N M:Nat):Prop :=
 ∃va vb X Y,e = .returned (.tuple #[va,vb])∧Duo B w' va vb X Y∧Y≤X∧Y<M∧X≤N∧Nat.gcd X Y=Nat.gcd N M∧Below B w w'
theorem steps_truly {s P Q R T x y:Int} {N M D:Nat}(h:FInv s (N / D:Nat) (M / D:Nat) x y P Q R T)(hD:0<D)(hQ:Q≠0) :
 ∃X Y:Nat,s*P*(N:Int) + -(s*Q)*(M:Int)=(X:Int)∧ -(s*R)*(N:Int)+s*T*(M:Int)=(Y:Int)∧Y<X∧X≤M∧Nat.gcd X Y=Nat.gcd N M:=by
 obtain⟨hl,h62,hQT,hT31,hc⟩:=h
 have hc':P≤Q∧1≤R∧1≤Q∧T≤y∧T+Q≤x - y:=by
  rcases hc with h | h
  ·exact absurd h.1 hQ
  ·exact h
 obtain⟨a,b,ha,hb,hb0,hba,hA,hB,hle⟩:=hl.truly (D:=(D:Int)) (a0:=((N % D:Nat):Int)) (b0:=((M % D:Nat):Int)) hc'.1 hc'.2.1 j0a ⟨by omega,by have:=Nat.mod_lt N hD;omega⟩ ⟨by omega,by have:=Nat.mod_lt M hD;omega⟩ hc'.2.2.2.1 hc'.2.2.2.2
 have eN:((N / D:Nat):Int)*(D:Int)+((N % D:Nat):Int)=(N:Int) := jcn
 have eM:((M / D:Nat):Int)*(D:Int)+((M % D:Nat):Int)=(M:Int) := jcn
 rw [eN,eM] at ha hb
 rw [eN] at hA
 rw [eM] at hB hle
 obtain⟨X,rfl⟩ : ∃X:Nat,a=(X:Int):=⟨a.toNat,by omega⟩
 obtain⟨Y,rfl⟩ : ∃Y:Nat,b=(Y:Int):=⟨b.toNat,by omega⟩
 have hg:=gcd_same ha hb hA hB
 refine⟨X,Y,by rw [ha];grind,by rw [hb];grind,by omega,by omega,?_⟩
 simpa [Int.gcd_natCast_natCast] using hg
theorem fac_of {s P Q:Int}(hs:s=1∨s = -1)(hP:0≤P)(hP1:P<2147483648)(hQ:0≤Q)(hQ1:Q<2147483648):Fac (s*P) (-(s*Q))∧Fac (-(s*P)) (s*Q):=by
 unfold Fac
 rcases hs with rfl | rfl <;> omega
set_option maxRecDepth 100000 in
set_option maxHeartbeats 4000000 in
theorem nearer_any(B ga sa n ca gb sb m cb:Nat)(fa fb:Nat→Nat)(w:World)(ra:Row .u32 117 w ga sa fa)(rb:Row .u32 117 w gb sb fb)(hna:n+1≤sa)(hmb:m≤sb)(hca:n+1≤ca)(hcb:m≤cb)(hab:ga≠gb)(hBa:B≤ga)(hBb:B≤gb)
 (hfa : ∀j,j<n+1→fa j<4294967296) (hfb : ∀j,j<m→fb j<4294967296) (ta:Trimmed fa (n+1)) (tb:Trimmed fb m) (hn:2≤n) (hn2:n≤10000000) (hm:0<m) (hle:num 4294967296 fb m≤num 4294967296 fa (n+1)) :
 Calls Tryz.prog 135 #[.slice (some ⟨ga,0,none⟩) (n+1) ca,.slice (some ⟨gb,0,none⟩) m cb] w fun e w'=>NearPost B w w' e (num 4294967296 fa (n+1)) (num 4294967296 fb m):=by
 have la:=ra.lt
 have lb:=rb.lt
 have htop:fa n≠0:=by
  rcases ta with h | h
  ·omega
  ·exact h
 have hmn:m≤n+1:=tb.len (B:=4294967296) j0a (Nat.lt_of_le_of_lt hle (num_lt j0a _ hfa))
 have HFO:=Lib.hid (foresee_any (some ⟨ga,0,none⟩) n ca fa (some ⟨gb,0,none⟩) m cb fb w (ra.rd0 hna) (rb.rd0 hmb) hfa hfb hn j0a htop hle)
 have RA:=Lib.hid ra
 have RB:=Lib.hid rb
 have HFA:=Lib.hid hfa
 have HFB:=Lib.hid hfb
 have TA:=Lib.hid ta
 have TB:=Lib.hid tb
 have HLE:=Lib.hid hle
 have ela:Hid (tlen fa (n+1)=n+1):=tlen_eq (Nat.le_refl _) (fun j a b=>by omega) ta
 have elb:Hid (tlen fb m=m):=tlen_eq (Nat.le_refl _) (fun j a b=>by omega) tb
 clear ra rb hfa hfb ta tb hle htop
 go_enter Tryz.func135,Tryz.ntmps135
 go_wp2_with fail
 refine HFO.out.mono ?_
 rintro e w1 ⟨D,hD,a,b,c,d,rfl,hb1,s,P,Q,R,T,x,y,hinv,ea,eb,ec,ed⟩
 have RA2:Hid (∀o,Row .u32 117 (w1.alloc o) ga sa fa):=fun o=>(RA.out.keep hb1).keep (below_new _ _)
 have RB2:Hid (∀o,Row .u32 117 (w1.alloc o) gb sb fb):=fun o=>(RB.out.keep hb1).keep (below_new _ _)
 have HB2:Hid (∀o,Below B w (w1.alloc o)):=fun o=>((hb1.mono (show B≤w.heap.size by omega)).alloc (by have:=hb1.size;omega) o)
 have hs1:=hb1.size
 have HINV:=Lib.hid hinv
 have EA:=Lib.hid ea
 have EB:=Lib.hid eb
 have EC:=Lib.hid ec
 have ED:=Lib.hid ed
 have HDp:=Lib.hid hD
 clear hb1 HFO hinv ea eb ec ed hD RA RB
 obtain⟨w2,hw2⟩ : ∃W,W=w1.alloc (.cells #[.int .i64 a,.int .i64 b,.int .i64 c,.int .i64 d] 149):=⟨_,rfl⟩
 have K6:=Lib.hid (show Blk w2 w1.heap.size 149 #[.int .i64 a,.int .i64 b,.int .i64 c,.int .i64 d] from by rw [hw2];exact Blk.new _ _ rfl _ _)
 have RA3:=Lib.hid (show Row .u32 117 w2 ga sa fa from by rw [hw2];exact RA2.out _)
 have RB3:=Lib.hid (show Row .u32 117 w2 gb sb fb from by rw [hw2];exact RB2.out _)
 have HB3:=Lib.hid (show Below B w w2 from by rw [hw2];exact HB2.out _)
 have hs2:w1.heap.size<w2.heap.size:=by rw [hw2];simp
 have HW2:=Lib.hid hw2.symm
 clear hw2
 by_cases hb0:b=0
 ·subst hb0
  have HD:=Lib.hid (div_own (some ⟨ga,0,none⟩) (n+1) ca fa (some ⟨gb,0,none⟩) m cb fb w2 (RA3.out.rd0 hna) hca j0a HFA.out (RB3.out.rd0 hmb) hcb j0a HFB.out (by rw [elb.out];exact hm) (by rw [ela.out,elb.out];exact hmn) (by rw [ela.out];omega))
  go_wp2_with fail
  rw [HW2.out]
  refine HD.out.mono ?_
  rintro e w3 ⟨vq,vr,rfl,hr,hb3⟩
  have hM0:0<num 4294967296 fb m:=TB.out.pos j0a hm
  have HR:=Lib.hid hr
  have HB4:=Lib.hid (HB3.out.trans (hb3.mono j0a))
  have RB4:=Lib.hid (RB3.out.keep hb3)
  clear hb3 hr HD
  obtain⟨M,hMe⟩ : ∃M,M=num 4294967296 fb m:=⟨_,rfl⟩
  have HM:=Lib.hid hMe
  clear hM0 hMe
  go_wp2
  go_ret2
  obtain⟨g,k,c2,sz,f,rfl,r1,r2,r3,r4,r5,r6,r7⟩:=HR.out
  exact⟨_,_,_,_,rfl,⟨gb,m,cb,sb,fb,g,k,c2,sz,f,rfl,rfl,hBb,by omega,by omega,hcb,r2,hmb,r3,RB4.out,r4,HFB.out,r5,TB.out,r6,rfl,r7⟩,
   Nat.le_of_lt (Nat.mod_lt _ (TB.out.pos j0a hm)),Nat.mod_lt _ (TB.out.pos j0a hm),HLE.out,gcd_turn _ _,HB4.out⟩
 ·have hQ:Q≠0:=fun h=>hb0 (by rw [EB.out,h];simp)
  have hg:(b == 0)=false:=by rw [beq_eq_false_iff_ne];exact hb0
  obtain⟨X,Y,t1,t2,t3,t4,t5⟩:=steps_truly HINV.out HDp.out hQ
  obtain⟨hl,h62,hQT,hT31,hc⟩:=HINV.out
  have hs:=hl.sgn
  obtain⟨hP0,hQ0,hR0,hT1,-,-,-,-,hRT,hPQ,-,-,-⟩:=hl
  have hP31:P<2147483648:=by
   rcases hc with h | h
   ·exact absurd h.1 hQ
   ·omega
  have f1:Fac a b:=by rw [EA.out,EB.out];exact(fac_of hs hP0 hP31 hQ0 j0a).1
  have f2:Fac c d:=by rw [EC.out,ED.out];exact(fac_of hs hR0 j0a j0a hT31).2
  rw [← EA.out,← EB.out] at t1
  rw [← EC.out,← ED.out] at t2
  have lM:num 4294967296 fb m<4294967296 ^ m:=num_lt j0a _ HFB.out
  have lX:X<4294967296 ^ (n+1):=Nat.lt_of_le_of_lt t4 (Nat.lt_of_lt_of_le lM (Nat.pow_le_pow_right j0a hmn))
  have HTK:=Lib.hid (take_any B ga sa (n+1) ca gb sb m cb a b c d fa fb w2 RA3.out RB3.out hna hmb hmn hab hBa hBb HFA.out HFB.out f1 f2 j0a t1 t2 lX j0a)
  have H3:=Lib.hid t3
  have H4:=Lib.hid t4
  have H5:=Lib.hid t5
  clear t1 t2 t3 t4 t5 hc hs hP0 hQ0 hR0 hT1 hRT hPQ hP31 f1 f2 lM lX h62 hQT hT31 hQ RA2 RB2 HB2
  obtain⟨p0,p1,p2,p3⟩:=K6.out.cells4
  go_wp2_with fail
  rw [HW2.out]
  refine HTK.out.mono ?_
  rintro e w3 ⟨Fa,Fb,rfl,q1,q2,q3,q4,q5,q6,q7⟩
  have C1:=Lib.hid (cut_any (some ⟨ga,0,none⟩) (n+1) ca Fa w3 (q1.rd0 hna) hca j0a)
  have C2:=Lib.hid (cut_any (some ⟨gb,0,none⟩) m cb Fb w3 (q2.rd0 hmb) hcb j0a)
  have HPO:Hid (NearPost B w w3 (.returned (.tuple #[.slice (some ⟨ga,0,none⟩) (tlen Fa (n+1)) ca,.slice (some ⟨gb,0,none⟩) (tlen Fb m) cb])) (num 4294967296 fa (n+1)) (num 4294967296 fb m)) :=
   ⟨_,_,X,Y,rfl,⟨ga,_,ca,sa,Fa,gb,_,cb,sb,Fb,rfl,rfl,hBa,hBb,hab,Nat.le_trans (tlen_le _) hca,Nat.le_trans (tlen_le _) hcb,Nat.le_trans (tlen_le _) hna,Nat.le_trans (tlen_le _) hmb,q1,q2,tlen_lt_dig q4,tlen_lt_dig q5,tlen_trimmed _,tlen_trimmed _,by rw [num_tlen,q6],by rw [num_tlen,q7]⟩,
    Nat.le_of_lt H3.out,Nat.lt_of_lt_of_le H3.out H4.out,Nat.le_trans H4.out HLE.out,H5.out,HB3.out.trans (q3.mono (Nat.le_refl _))⟩
  clear q1 q2 q3 q4 q5 q6 q7 HTK
  go_wp2_with fail
  refine C1.out.mono ?_
  rintro e w4 ⟨rfl,rfl⟩
  go_wp2_with fail
  refine C2.out.mono ?_
  rintro e w4 ⟨rfl,rfl⟩
  go_wp2
  go_ret2
  exact HPO.out
theorem IsNat.uniq {w:World} {v:Value} {N M:Nat}(h:IsNat w v N)(h':IsNat w v M):N=M:=by
 obtain⟨A,n,c,f,rfl,h2,h3,h4,h5,rfl⟩:=h
 obtain⟨A',n',c',f',e,k2,k3,k4,k5,rfl⟩:=h'
 injection e with e1 e2 e3
 subst e1 e2
 refine num_congr _ fun j hj=>?_
 obtain⟨ad,e,hc⟩:=h3 j hj
 obtain⟨ad',e',hc'⟩:=k3 j hj
 rw [e] at e'
 injection e' with e'
 subst e'
 rw [hc] at hc'
 injection hc' with hc'
 injection hc' with _ hc'
 omega
open Classical in
noncomputable def natVal(w:World)(v:Value):Nat:=if h : ∃N,IsNat w v N then h.choose else 0
theorem natVal_eq {w:World} {v:Value} {N:Nat}(h:IsNat w v N):natVal w v=N:=by
 unfold natVal
 have hx : ∃N,IsNat w v N:=⟨N,h⟩
 rw [dif_pos hx]
 exact hx.choose_spec.uniq h
def GInv(w wr:World)(v0 v1:Value)(N M K:Nat):Prop :=
 ∃X Y,Duo w.heap.size wr v0 v1 X Y∧Y≤X∧X<4294967296 ^ K∧Nat.gcd X Y=Nat.gcd N M∧Below w.heap.size w wr
set_option maxRecDepth 100000 in
set_option maxHeartbeats 4000000 in
theorem gcd_any(A:Option Addr)(n c:Nat)(f:Nat→Nat)(B:Option Addr)(m d:Nat)(h:Nat→Nat)(w:World)(ha:Rd .u32 w A n f)(hc:n≤c)(hn:n≤400000)(hf : ∀j,j<n→f j<4294967296)
 (hb:Rd .u32 w B m h) (hd:m≤d) (hm:m≤400000) (hh : ∀j,j<m→h j<4294967296) :
 Calls Tryz.prog 122 #[.slice A n c,.slice B m d] w fun e w'=>NatPost w w' e (Nat.gcd (num 4294967296 f n) (num 4294967296 h m)):=by
 have T1:=Lib.hid (trim_any A n c f w ha hc j0a)
 have T2:=Lib.hid (fun w' hb'=>trim_any B m d h w' hb' hd j0a)
 have HB:=Lib.hid hb
 have t1:=tlen_le (f:=f) n
 have t2:=tlen_le (f:=h) m
 have hN0:=num_tlen (B:=4294967296) (f:=f) n
 have hM0:=num_tlen (B:=4294967296) (f:=h) m
 generalize num 4294967296 f n=N at *
 generalize num 4294967296 h m=M at *
 have HN:=Lib.hid hN0
 have HM:=Lib.hid hM0
 clear hN0 hM0
 have HF:=Lib.hid (tlen_lt_dig hf)
 have HH:=Lib.hid (tlen_lt_dig hh)
 have TF:=Lib.hid (tlen_trimmed (f:=f) n)
 have TH:=Lib.hid (tlen_trimmed (f:=h) m)
 clear ha hb hf hh
 go_enter Tryz.func122,Tryz.ntmps122
 go_wp2_with fail
 refine T1.out.mono ?_
 rintro e w1 ⟨rfl,f1,hr1,hf1,hb1,hz1⟩
 have R1:=Lib.hid hr1
 have F1:=Lib.hid hf1
 have B1:=Lib.hid hb1
 have T2':=Lib.hid (T2.out w1 (HB.out.below hb1))
 clear hr1 hf1 hb1 T1 T2
 go_wp2_with fail
 refine T2'.out.mono ?_
 rintro e w2 ⟨rfl,f2,hr2,hf2,hb2,hz2⟩
 have R2:=Lib.hid hr2
 have F2:=Lib.hid hf2
 have B2:=Lib.hid (below_trans B1.out hb2)
 have R1':=Lib.hid (R1.out.keep hb2)
 clear hr2 hf2 hb2 T2' R1
 generalize tlen f n=p at *
 generalize tlen h m=q at *
 obtain⟨K,hK⟩ : ∃K,K=p+q:=⟨_,rfl⟩
 have TW:Hid (Duo w.heap.size w2 (.slice (some ⟨w.heap.size,0,none⟩) p p) (.slice (some ⟨w1.heap.size,0,none⟩) q q) N M):=by
  refine⟨_,p,p,p,f1,_,q,q,q,f2,rfl,rfl,by omega,by omega,by omega,by omega,by omega,by omega,by omega,R1'.out,R2.out,fun j hj=>by rw [F1.out j hj];exact HF.out j hj,fun j hj=>by rw [F2.out j hj];exact HH.out j hj,?_,?_,by rw [num_congr _ F1.out,HN.out],by rw [num_congr _ F2.out,HM.out]⟩
  ·rcases TF.out with h | h
   ·exact .inl h
   ·by_cases h0:p=0
    ·exact .inl h0
    ·exact .inr (by rw [F1.out _ j0a];exact h)
  ·rcases TH.out with h | h
   ·exact .inl h
   ·by_cases h0:q=0
    ·exact .inl h0
    ·exact .inr (by rw [F2.out _ j0a];exact h)
 have lN:N<4294967296 ^ K:=by rw [← HN.out];exact Nat.lt_of_lt_of_le (num_lt j0a _ HF.out) (Nat.pow_le_pow_right j0a j0a)
 have lM:M<4294967296 ^ K:=by rw [← HM.out];exact Nat.lt_of_lt_of_le (num_lt j0a _ HH.out) (Nat.pow_le_pow_right j0a j0a)
 clear R1' R2 F1 F2 HF HH TF TH HN HM HB
 have LN:=Lib.hid lN
 have LM:=Lib.hid lM
 clear lN lM
 have hK2:K≤800000 := j0a
 clear hK hz1 hz2
 have I1:=Lib.hid (TW.out.isNat.1.lim LN.out)
 have I2:=Lib.hid (TW.out.isNat.2.lim LM.out)
 obtain⟨r,hr⟩ : ∃r,cmpN N M=r:=⟨_,rfl⟩
 have CM:=Lib.hid (lim_cmp_is r hr I1.out I2.out j0a j0a)
 have hr2:(r<0→N<M)∧(¬r<0→M≤N):=by
  rcases Nat.lt_trichotomy N M with h | h | h
  ·rw [cmpN_lt h] at hr;omega
  ·subst h;rw [cmpN_eq] at hr;omega
  ·rw [cmpN_gt h] at hr;omega
 have HR2:=Lib.hid hr2
 clear hr hr2
 go_wp2_with fail
 refine CM.out.mono ?_
 rintro e w3 ⟨rfl,hb3⟩
 have G1:Hid (r<0→GInv w w3 (.slice (some ⟨w1.heap.size,0,none⟩) q q) (.slice (some ⟨w.heap.size,0,none⟩) p p) N M K):=fun h=>⟨M,N,(TW.out.below hb3).swap,by have:=HR2.out.1 h;omega,LM.out,Nat.gcd_comm _ _,below_trans B2.out hb3⟩
 have G2:Hid (¬r<0→GInv w w3 (.slice (some ⟨w.heap.size,0,none⟩) p p) (.slice (some ⟨w1.heap.size,0,none⟩) q q) N M K):=fun h=>⟨N,M,TW.out.below hb3,HR2.out.2 j0a,LN.out,rfl,below_trans B2.out hb3⟩
 clear CM hb3 I1 I2 TW B1 B2 HR2
 by_cases hr:r<0
 all_goals
  go_wp2
  go_loopw [0,1] (fun v0 v1 wr=>GInv w wr v0 v1 N M K) (fun _ v1 wr=>natVal wr v1)
  case atStart=>first | exact G1.out hr | exact G2.out hr
  case round =>
   obtain⟨X,Y,htw,hYX,hXK,hg,hbl⟩:=hrel
   clear G1 G2 hr
   have hi:=htw.isNat
   have HV:=Lib.hid (natVal_eq hi.2)
   have HI1:=Lib.hid hi.1
   have HI2:=Lib.hid hi.2
   obtain⟨ga,na,ca,sa,fa,gb,nb,cb,sb,fb,rfl,rfl,h1,h2,h3,h4,h5,h6,h7,h8,h9,h10,h11,h12,h13,h14,h15⟩:=htw
   have HG:=Lib.hid hg
   have HBL:=Lib.hid hbl
   have hnb:0<nb→0<Y:=fun h=>by rw [← h15];exact h13.pos j0a h
   have hnb':nb=0→Y=0:=fun h=>by rw [← h15,h];rfl
   have hna:na≤K:=h12.len (B:=4294967296) j0a (by rw [h14];exact hXK)
   have hba:nb≤na:=h13.len (B:=4294967296) j0a (by rw [h15];exact Nat.lt_of_le_of_lt hYX (by rw [← h14];exact num_lt j0a _ h10))
   have DZ:Hid (nb=0→NatPost w wr (.returned (.slice (some ⟨ga,0,none⟩) na ca)) (Nat.gcd N M)):=fun h=>by
    have e:=HG.out
    rw [hnb' h,Nat.gcd_zero_right] at e
    exact⟨_,rfl,by rw [← e];exact HI1.out,HBL.out⟩
   have DR:Hid (2<na→0<nb→Calls Tryz.prog 135 #[.slice (some ⟨ga,0,none⟩) na ca,.slice (some ⟨gb,0,none⟩) nb cb] wr fun e w'=>NearPost w.heap.size wr w' e X Y):=fun ha hb=>by
    obtain⟨na',rfl⟩ : ∃k,na=k+1:=⟨na - 1,by omega⟩
    rw [← h14,← h15]
    exact nearer_any w.heap.size ga sa na' ca gb sb nb cb fa fb wr h8 h9 h6 h7 h4 h5 h3 h1 h2 h10 h11 h12 h13 j0a j0a hb (by rw [h14,h15];exact hYX)
   have DW:Hid (na≤2→nb≤2→(X:Int)≤18446744073709551615∧(Y:Int)≤18446744073709551615∧Calls Tryz.prog 138 #[.slice (some ⟨ga,0,none⟩) na ca] wr (fun e w'=>e = .returned (.int .u64 (X:Nat))∧w'=wr)∧Calls Tryz.prog 138 #[.slice (some ⟨gb,0,none⟩) nb cb] wr (fun e w'=>e = .returned (.int .u64 (Y:Nat))∧w'=wr)):=fun ha hb=>by
    rw [← h14,← h15]
    exact⟨num_lt_two ha h10,num_lt_two hb h11,word_any _ na ca fa wr (h8.rd0 h6) h10 ha,word_any _ nb cb fb wr (h9.rd0 h7) h11 hb⟩
   have HXK:=Lib.hid hXK
   clear hi h1 h2 h3 h4 h5 h6 h7 h8 h9 h10 h11 h12 h13 h14 h15 hg hbl hYX hXK
   by_cases hb0:nb=0
   ·have DZ':=Lib.hid (DZ.out hb0)
    clear DZ DR DW
    subst hb0
    by_cases ha2:2<na
    all_goals
     go_wp2
    all_goals
     go_ret
     exact DZ'.out
   ·have hb1:0<nb:=by omega
    have hgb:((nb:Int) == 0)=false := j0p
    by_cases ha2:2<na
    ·have DN:=Lib.hid (DR.out ha2 hb1)
     have hlY:=Lib.hid (hnb hb1)
     clear DR DZ DW hb0 hnb hnb'
     go_wp2_with fail
     refine DN.out.mono ?_
     rintro e w4 ⟨va,vb,X',Y',rfl,n1,n2,n3,n4,n5,n6⟩
     have N1:=Lib.hid (show GInv w w4 va vb N M K from⟨X',Y',n1,n2,Nat.lt_of_le_of_lt n4 HXK.out,by rw [n5];exact HG.out,HBL.out.trans n6⟩)
     have N2:Hid (natVal w4 vb<natVal wr (.slice (some ⟨gb,0,none⟩) nb cb)):=by
      show _<_
      rw [HV.out,natVal_eq n1.isNat.2];exact n3
     clear n1 n2 n3 n4 n5 n6 DN
     go_wp2
     go_roundw
     case rel=>exact N1.out
     case measure=>exact N2.out
    ·have hna2:na≤2:=by omega
     obtain⟨x1,x2,W1,W2⟩:=DW.out j0a j0a
     have W1':=Lib.hid W1
     have W2':=Lib.hid W2
     have GW:=Lib.hid (fun w'=>gcdWord_any X Y w' x1 x2)
     have hgX:(Nat.gcd X Y:Int)≤18446744073709551615:=by
      have:Nat.gcd X Y≤Y:=Nat.gcd_le_right _ (hnb hb1)
      omega
     have OW:=Lib.hid (fun w'=>ofWord_any (Nat.gcd X Y) w' hgX)
     clear DR DZ DW W1 W2 hnb hnb' x1 x2 hgX
     go_wp2_with fail
     refine W1'.out.mono ?_
     rintro e w4 ⟨rfl,rfl⟩
     go_wp2_with fail
     refine W2'.out.mono ?_
     rintro e w4 ⟨rfl,rfl⟩
     generalize Nat.gcd X Y=g at *
     go_wp2_with fail
     refine(GW.out _).mono ?_
     rintro e w5 ⟨rfl,hb5⟩
     have HB5:=Lib.hid (HBL.out.trans (hb5.mono HBL.out.size))
     clear hb5
     go_wp2_with fail
     refine(OW.out _).mono ?_
     rintro e w6 ⟨v,rfl,hv,hb6⟩
     have HB6:=Lib.hid (HB5.out.trans (hb6.mono HB5.out.size))
     have HV6:=Lib.hid (show IsNat w6 v (Nat.gcd N M) from by rw [← HG.out];exact hv)
     clear hb6 hv
     go_wp2
     go_ret
     exact⟨v,rfl,HV6.out,HB6.out⟩
theorem lim_gcd {k m N M:Nat} {w:World} {v1 v2:Value}(h1:Lim k w v1 N)(h2:Lim m w v2 M)(hk:k≤400000)(hm:m≤400000):Calls Tryz.prog 122 #[v1,v2] w fun e w'=>NatPost w w' e (Nat.gcd N M):=by
 obtain⟨A,n,c,f,rfl,a1,a2,a3,a4,rfl⟩:=h1
 obtain⟨B,m,d,h,rfl,b1,b2,b3,b4,rfl⟩:=h2
 exact gcd_any A n c f B m d h w a2 a1 j0a a3 b2 b1 j0a b3
end Go.Proofs.YtgilnmhejjpleaaGreat
