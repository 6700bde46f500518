/- Contracts: foresee. -/
import Derived.Test.YtgilnmhejjpleaaGreatPLr
import Derived.Test.YtgilnmhejjpleaaGreatPBlk
import Derived.Test.YtgilnmhejjpleaaGreatPNatD
namespace Go.Proofs.YtgilnmhejjpleaaGreat
open Go.RowKit
theorem j0z {P:Prop}(h:P:=by rw [← hW]; exact Blk.new _ _ rfl _ _):P:=h
theorem jba {P:Prop}(h:P:=by rcases hsg with rfl | rfl <;> omega):P:=h
theorem jb9 {P:Prop}(h:P:=by simp [results, Tryz.results142, go_sem, e0, e1, e2, e3]):P:=h
theorem jcm {P:Prop}(h:P:=by rw [hWF]; exact Below.set4 HB2.out (Nat.le_refl _)):P:=h
def FInv(s x0 y0 x y P Q R T:Int):Prop :=
 LI s x0 y0 x y P Q R T∧x0<4611686018427387904∧Q≤T∧T<2147483648∧((Q=0∧R=0∧T=1∧P=1)∨(P≤Q∧1≤R∧1≤Q∧T≤y∧T+Q≤x - y))
theorem LI.sgn {s x0 y0 x y P Q R T:Int}(h:LI s x0 y0 x y P Q R T):s=1∨s = -1:=by
 obtain⟨_,_,_,_,_,_,_,h4,_⟩:=h
 have:(s - 1)*(s+1)=0 := j0w
 rcases Int.mul_eq_zero.1 this with h | h
 ·exact .inl j0a
 ·exact .inr j0a
theorem FInv.start {x0 y0:Int}(h0:0≤y0)(h:y0≤x0)(hx:x0<4611686018427387904):FInv 1 x0 y0 x0 y0 1 0 0 1 :=
 ⟨LI.start h0 h,hx,by omega,by omega,.inl ⟨rfl,rfl,rfl,rfl⟩⟩
theorem FInv.bounds {s x0 y0 x y P Q R T:Int}(h:FInv s x0 y0 x y P Q R T)(hy:0<y) :
 0≤P∧0≤Q∧0≤R∧1≤T∧P<2147483648∧Q<2147483648∧R<2147483648∧T<2147483648∧0≤y∧y≤x∧x<4611686018427387904∧1≤x / y∧x / y<4611686018427387904∧0≤x / y*y∧x / y*y≤x∧x - x / y*y<y∧
 0≤x / y*R∧x / y*R≤x / y*T∧x / y*T≤x:=by
 obtain⟨hl,h62,hQT,hT31,hc⟩:=h
 have hb:=hl.back.1
 obtain⟨hP,hQ,hR,hT,h1,h2,h3,h4,h5,h6,h7,h8,h9⟩:=hl
 have hTy:T≤y := j0a
 have hPb:P<2147483648 := j0a
 have b1:1*x≤T*x:=Int.mul_le_mul_of_nonneg_right hT j0a
 have b2:0≤Q*y:=Int.mul_nonneg hQ h8
 have hk1:1≤x / y:=(Int.le_ediv_iff_mul_le hy).2 j0a
 have hk2:x / y≤x:=Int.ediv_le_self _ j0a
 have e:=Int.mul_ediv_add_emod x y
 have e2:=Int.emod_lt_of_pos x hy
 have e3:=Int.emod_nonneg x (Int.ne_of_gt hy)
 have e4:y*(x / y)=x / y*y:=Int.mul_comm ..
 generalize x / y=k at *
 have c1:0≤k*R:=Int.mul_nonneg j0a hR
 have c2:k*R≤k*T:=Int.mul_le_mul_of_nonneg_left h5 j0a
 have c3:k*T≤k*y:=Int.mul_le_mul_of_nonneg_left hTy j0a
 refine⟨hP,hQ,hR,hT,hPb,by omega,by omega,hT31,h8,h9,by omega,hk1,by omega,by omega,by omega,by omega,c1,c2,by omega⟩
theorem FInv.step {s x0 y0 x y P Q R T:Int}(h:FInv s x0 y0 x y P Q R T)(hy:0<y)(hc1:Q+x / y*T≤x - x / y*y)(hc2:Q+x / y*T+T≤y - (x - x / y*y)) :
 FInv (-s) x0 y0 y (x - x / y*y) R T (P+x / y*R) (Q+x / y*T):=by
 obtain⟨hP,hQ,hR,hT,-,-,-,-,-,-,-,hk1,-,hky0,hky,hr,c1,c2,c3⟩:=h.bounds hy
 obtain⟨hl,h62,hQT,hT31,hc⟩:=h
 have hsm:=hl.small hk1 h62 hc1 hc2 j0a
 have hst:=hl.step hk1 j0a j0a
 obtain⟨_,_,_,_,_,_,_,_,h5,h6,h7,h8,h9⟩:=hl
 generalize x / y=k at *
 have d1:0≤(k - 1)*T:=Int.mul_nonneg j0a j0a
 have d2:(k - 1)*T=k*T - T := j0w
 have d3:0≤(k - 1)*R:=Int.mul_nonneg j0a hR
 have d4:(k - 1)*R=k*R - R := j0w
 exact⟨hst,h62,by omega,hsm,.inr ⟨h5,by omega,by omega,hc1,by omega⟩⟩
theorem abs_sgn {s T:Int}(hs:s=1∨s = -1)(hT:0≤T):(if s*T<0 then -(s*T) else s*T)=T∧(if -(s*T)<0 then - -(s*T) else -(s*T))=T:=by
 rcases hs with rfl | rfl
 ·rw [Int.one_mul];constructor <;> split <;> omega
 ·rw [Int.neg_mul,Int.one_mul];constructor <;> split <;> omega
def Steps(x0 y0 a b c d:Int):Prop :=
 ∃s P Q R T x y:Int,FInv s x0 y0 x y P Q R T∧a=s*P∧b = -(s*Q)∧c = -(s*R)∧d=s*T
def ForePost(w w':World)(e:Ending)(x0 y0:Int):Prop :=
 ∃a b c d:Int,e = .returned (.agg #[.int .i64 a,.int .i64 b,.int .i64 c,.int .i64 d])∧Below w.heap.size w w'∧Steps x0 y0 a b c d
section
variable {w:World} {g g':Nat} {t:TypeId} {x0 x1 x2 x3 y0 y1 y2 y3:Value}
theorem Blk.cells4(h:Blk w g t #[x0,x1,x2,x3]):w.cell? ⟨g,0,none⟩=some x0∧w.cell? ⟨g,1,none⟩=some x1∧w.cell? ⟨g,2,none⟩=some x2∧w.cell? ⟨g,3,none⟩=some x3:=⟨h.cell 0,h.cell 1,h.cell 2,h.cell 3⟩
theorem Blk.frozen4(h:Blk w g t #[x0,x1,x2,x3]):w.frozen? ⟨g,0,none⟩=false∧w.frozen? ⟨g,1,none⟩=false∧w.frozen? ⟨g,2,none⟩=false∧w.frozen? ⟨g,3,none⟩=false:=⟨h.frozen 0,h.frozen 1,h.frozen 2,h.frozen 3⟩
theorem Blk.own4(h:Blk w g t #[x0,x1,x2,x3]):Blk ((((w.setCell ⟨g,0,none⟩ y0).setCell ⟨g,1,none⟩ y1).setCell ⟨g,2,none⟩ y2).setCell ⟨g,3,none⟩ y3) g t #[y0,y1,y2,y3]:=(((h.set_ 0 y0).set_ 1 y1).set_ 2 y2).set_ 3 y3
theorem Blk.other4 {cs:Array Value}(h:Blk w g t cs)(hg:g≠g'):Blk ((((w.setCell ⟨g',0,none⟩ y0).setCell ⟨g',1,none⟩ y1).setCell ⟨g',2,none⟩ y2).setCell ⟨g',3,none⟩ y3) g t cs:=(((h.other hg 0 y0).other hg 1 y1).other hg 2 y2).other hg 3 y3
theorem Below.set4 {B:Nat} {w0:World}(h:Below B w0 w)(hg:B≤g):Below B w0 ((((w.setCell ⟨g,0,none⟩ y0).setCell ⟨g,1,none⟩ y1).setCell ⟨g,2,none⟩ y2).setCell ⟨g,3,none⟩ y3):=(((h.setCell hg _).setCell hg _).setCell hg _).setCell hg _
end
set_option maxRecDepth 100000 in
set_option maxHeartbeats 4000000 in
theorem foresee_any(A:Option Addr)(n c:Nat)(f:Nat→Nat)(B:Option Addr)(m d:Nat)(h:Nat→Nat)(w:World)(ha:Rd .u32 w A (n+1) f)(hb:Rd .u32 w B m h)(hf : ∀j,j<n+1→f j<4294967296)(hh : ∀j,j<m→h j<4294967296)
 (hn:2≤n) (hn2:n≤1000000000) (ht:f n≠0) (hle:num 4294967296 h m≤num 4294967296 f (n+1)) :
 Calls Tryz.prog 142 #[.slice A (n+1) c,.slice B m d] w fun e w' => ∃D:Nat,0<D∧ForePost w w' e (num 4294967296 f (n+1) / D:Nat) (num 4294967296 h m / D:Nat):=by
 obtain⟨ad,rfl,_⟩:=ha 0 j0a
 have hc0 : ∀o,(w.alloc o).cell? (ad.add n)=some (.int .u32 (f n:Nat)):=fun o=>(ha.below (below_new w o)).at_ (j:=n) j0a
 have HL:=Lib.hid (fun w=>lead_any (f n) w (hf n j0a) j0a)
 have HA:=Lib.hid ha
 have HB:=Lib.hid hb
 have HF:=Lib.hid hf
 have HH:=Lib.hid hh
 have HLE:=Lib.hid hle
 clear ha hb hf hh hle
 go_enter Tryz.func142,Tryz.ntmps142
 go_wp2_with fail
 refine(HL.out _).mono ?_
 rintro e w' ⟨⟨z,rfl,hz,-,n2⟩,rfl⟩
 have WT:=Lib.hid (window_top hn HF.out hz n2)
 obtain⟨sh,hsh⟩ : ∃sh,sh=32*(n+1) - z - 62:=⟨_,rfl⟩
 rw [← hsh] at WT
 have hshi:(32:Int)*((n:Int)+1) - (z:Int) - 62=(sh:Int) := j0a
 have hsb:sh≤281474976710656 := j0a
 clear hsh n2 hc0 hz HL ht
 obtain⟨X,hX⟩ : ∃X,X=num 4294967296 f (n+1) / 2 ^ sh:=⟨_,rfl⟩
 obtain⟨Y,hY⟩ : ∃Y,Y=num 4294967296 h m / 2 ^ sh:=⟨_,rfl⟩
 have HYX:Y≤X:=by rw [hX,hY];exact Nat.div_le_div_right HLE.out
 have HX62:X<4611686018427387904:=by rw [hX];exact WT.out
 have W1:Hid (∀w',Rd .u32 w' (some ad) (n+1) f→Calls Tryz.prog 148 #[.slice (some ad) (n+1) c,.int .i64 (sh:Nat)] w' fun e w2=>e = .returned (.int .i64 (X:Nat))∧∃k,w2=w'.drewN k):=fun w' hr=>by
  rw [hX];exact window_any (some ad) (n+1) c sh f w' hr HF.out hsb WT.out
 have W2:Hid (∀w',Rd .u32 w' B m h→Calls Tryz.prog 148 #[.slice B m d,.int .i64 (sh:Nat)] w' fun e w2=>e = .returned (.int .i64 (Y:Nat))∧∃k,w2=w'.drewN k):=fun w' hr=>by
  rw [hY];exact window_any B m d sh h w' hr HH.out hsb (by rw [← hY];omega)
 have HP:Hid (∀e w2,ForePost w w2 e (X:Nat) (Y:Nat)→∃D:Nat,0<D∧ForePost w w2 e (num 4294967296 f (n+1) / D:Nat) (num 4294967296 h m / D:Nat)):=fun e w2 hp =>
  ⟨2 ^ sh,Nat.pow_pos j0a,by rw [← hX,← hY];exact hp⟩
 clear hX hY WT HLE
 go_wp2_with fail
 refine(W1.out _ (HA.out.below (below_new _ _))).mono ?_
 rintro e w' ⟨rfl,k1,rfl⟩
 go_wp2_with fail
 refine(W2.out _ ((HB.out.below (below_new _ _)).below (Below.drewN_ (Below.refl _ _) _))).mono ?_
 rintro e w' ⟨rfl,k2,rfl⟩
 clear W1 W2 HA HB HF HH
 go_wp2
 obtain⟨w1,hw1⟩ : ∃W,W=(((w.alloc (Obj.cells #[Value.int IntKind.i64 0,Value.int IntKind.i64 0,Value.int IntKind.i64 0,Value.int IntKind.i64 0] 149)).drewN (k1+k2)).alloc (Obj.cells #[Value.int IntKind.i64 1,Value.int IntKind.i64 0,Value.int IntKind.i64 0,Value.int IntKind.i64 1] 149)):=⟨_,rfl⟩
 have K4:Hid (Blk w1 w.heap.size 149 #[.int .i64 0,.int .i64 0,.int .i64 0,.int .i64 0]):=by
  rw [hw1]
  exact((show Blk _ _ _ _ from Blk.new w w.heap.size rfl 149 _).below (Below.drewN_ (Below.refl _ _) _)).alloc_ _
 have K8:Hid (Blk w1 (w.heap.size+1) 149 #[.int .i64 1,.int .i64 0,.int .i64 0,.int .i64 1]):=by
  rw [hw1]
  exact Blk.new _ _ j0b _ _
 have B1:Hid (Below w.heap.size w w1):=by
  rw [hw1]
  exact(Below.drewN_ (below_new w _) _).alloc j0b _
 rw [← hw1]
 clear hw1
 go_loopw [6,7] (fun v6 v7 wr => ∃s x y P Q R T:Int,v6 = .int .i64 x∧v7 = .int .i64 y∧FInv s X Y x y P Q R T∧Blk wr w.heap.size 149 #[.int .i64 0,.int .i64 0,.int .i64 0,.int .i64 0]∧
  Blk wr (w.heap.size+1) 149 #[.int .i64 (s*P),.int .i64 (-(s*Q)),.int .i64 (-(s*R)),.int .i64 (s*T)]∧Below w.heap.size w wr) (fun _ v7 _=>(intOf v7).toNat)
 case atStart=>exact⟨1,X,Y,1,0,0,1,rfl,rfl,FInv.start j0a j0a j0a,K4.out,by simpa using K8.out,B1.out⟩
 case round =>
  clear K4 K8 B1
  obtain⟨s,x,y,P,Q,R,T,rfl,rfl,hinv,k4,k8,hbl⟩:=hrel
  have HI:=Lib.hid hinv
  have HB:=Lib.hid hbl
  by_cases hy:0<y
  ·obtain⟨hP,hQ,hR,hT,u1,u2,u3,u4,u5,u6,u7,u8,u9,u10,u11,u12,u13,u14,u15⟩:=hinv.bounds hy
   have hsg:=hinv.1.sgn
   have HST:=Lib.hid (hinv.step hy)
   have hq0:x / y=x / y:=rfl
   obtain⟨k,hk⟩ : ∃k,k=x / y:=⟨_,rfl⟩
   rw [← hk] at u8 u9 u10 u11 u12 u13 u14 u15 HST
   have hk':x / y=k:=hk.symm
   clear hk hq0 hinv
   obtain⟨F,hF⟩ : ∃F,F=Q+k*T:=⟨_,rfl⟩
   obtain⟨E,hE⟩ : ∃E,E=P+k*R:=⟨_,rfl⟩
   have hF0:0≤F:=by rw [hF];have:0≤k*T:=Int.mul_nonneg j0a j0a;omega
   have hF1:F≤4611686020574871551:=by rw [hF];omega
   have hFs:Hid (∀w',Calls Tryz.prog 149 #[.int .i64 (-(s*Q) - k*(s*T))] w' fun e w2=>e = .returned (.int .i64 F)∧w2=w'):=fun w'=>by
    have e : -(s*Q) - k*(s*T) = -(s*F):=by rw [hF];grind
    have:=size_any (-(s*F)) w' jba jba
    rw [e]
    rwa [(abs_sgn hsg hF0).2] at this
   have hTs:Hid (∀w',Calls Tryz.prog 149 #[.int .i64 (s*T)] w' fun e w2=>e = .returned (.int .i64 T)∧w2=w'):=fun w'=>by
    have:=size_any (s*T) w' jba jba
    rwa [(abs_sgn hsg j0a).1] at this
   have HN:Hid (F≤x - k*y→F+T≤y - (x - k*y)→FInv (-s) X Y y (x - k*y) R T E F):=fun c1 c2=>by
    rw [hE,hF];rw [hF] at c1 c2;exact HST.out c1 c2
   have HV:Hid (-(s*Q) - k*(s*T) = -s*F∧s*P - k * -(s*R) = -(-s*E)∧ -(s*R) = -s*R∧s*T = -(-s*T)):=by
    refine⟨by rw [hF];grind,by rw [hE];grind,by grind,by grind⟩
   have m1 : -4611686018427387904<k * -(s*R)∧k * -(s*R)<4611686018427387904:=by
    rcases hsg with rfl | rfl
    ·rw [Int.one_mul,Int.mul_neg];omega
    ·rw [Int.neg_mul,Int.one_mul,Int.neg_neg];omega
   have m2 : -4611686018427387904<k*(s*T)∧k*(s*T)<4611686018427387904:=by
    rcases hsg with rfl | rfl
    ·rw [Int.one_mul];omega
    ·rw [Int.neg_mul,Int.one_mul,Int.mul_neg];omega
   have a1 : -2147483648<s*P∧s*P<2147483648 := jba
   have a2 : -2147483648 < -(s*Q)∧ -(s*Q)<2147483648 := jba
   have a3 : -2147483648 < -(s*R)∧ -(s*R)<2147483648 := jba
   have a4 : -2147483648<s*T∧s*T<2147483648 := jba
   clear HST hF hE hsg hP hQ hR u1 u2 u3 u13 u14 u15
   generalize hA:s*P=a at *
   generalize hB : -(s*Q)=b at *
   generalize hC : -(s*R)=c' at *
   generalize hDD:s*T=dd at *
   have HA:=Lib.hid hA
   have HB':=Lib.hid hB
   have HC:=Lib.hid hC
   have HDD:=Lib.hid hDD
   obtain⟨p0,p1,p2,p3⟩:=k8.cells4
   have K8:=Lib.hid k8
   have K4:=Lib.hid k4
   have lt8:=k8.lt
   clear k8 k4 hbl hA hB hC hDD
   have hg:(y == 0)=false := j0p
   have hg2:(y != 0)=true := jbo
   obtain⟨m3,m4⟩:=m1
   obtain⟨m5,m6⟩:=m2
   obtain⟨a5,a6⟩:=a1
   obtain⟨a7,a8⟩:=a2
   obtain⟨a9,a10⟩:=a3
   obtain⟨a11,a12⟩:=a4
   go_wp2_with fail
   refine(hFs.out _).mono ?_
   rintro e w2 ⟨rfl,hw2⟩
   generalize hW:(wr.alloc (Obj.cells #[Value.int IntKind.i64 c',Value.int IntKind.i64 dd,Value.int IntKind.i64 (a - k*c'),Value.int IntKind.i64 (b - k*dd)] 149))=w3 at *
   subst hw2
   have K8':=Lib.hid (show Blk w2 (w.heap.size+1) 149 #[.int .i64 a,.int .i64 b,.int .i64 c',.int .i64 dd] from by rw [← hW];exact K8.out.alloc_ _)
   have K4':=Lib.hid (show Blk w2 w.heap.size 149 #[.int .i64 0,.int .i64 0,.int .i64 0,.int .i64 0] from by rw [← hW];exact K4.out.alloc_ _)
   have K9:=Lib.hid (show Blk w2 wr.heap.size 149 #[.int .i64 c',.int .i64 dd,.int .i64 (a - k*c'),.int .i64 (b - k*dd)] from j0z)
   have HB2:=Lib.hid (show Below w.heap.size w w2 from by rw [← hW];exact HB.out.alloc HB.out.size _)
   obtain⟨n0,n1,n2,n3⟩:=K9.out.cells4
   clear hW K8 K4 HB p0 p1 p2 p3
   by_cases hlt:x - k*y<F
   ·obtain⟨p0,p1,p2,p3⟩:=K8'.out.cells4
    obtain⟨r0,r1,r2,r3⟩:=K4'.out.frozen4
    obtain⟨q0,q1,q2,q3⟩:=K4'.out.cells4
    go_wp2
    obtain⟨WF,hWF⟩ : ∃W,W=((((w2.setCell ⟨w.heap.size,0,none⟩ (.int .i64 a)).setCell ⟨w.heap.size,1,none⟩ (.int .i64 b)).setCell ⟨w.heap.size,2,none⟩ (.int .i64 c')).setCell ⟨w.heap.size,3,none⟩ (.int .i64 dd)):=⟨_,rfl⟩
    rw [← hWF]
    have kq:Blk WF w.heap.size 149 #[.int .i64 a,.int .i64 b,.int .i64 c',.int .i64 dd]:=by rw [hWF];exact K4'.out.own4
    have hBF:Below w.heap.size w WF := jcm
    have HE:=HP.out (.returned (.agg #[.int .i64 a,.int .i64 b,.int .i64 c',.int .i64 dd])) WF ⟨_,_,_,_,rfl,hBF,s,P,Q,R,T,_,_,HI.out,HA.out.symm,HB'.out.symm,HC.out.symm,HDD.out.symm⟩
    obtain⟨e0,e1,e2,e3⟩:=kq.cells4
    clear hWF
    exact bodyPost_ret (v := .agg #[.int .i64 a,.int .i64 b,.int .i64 c',.int .i64 dd]) jb9 rfl HE
   ·have c1:F≤x - k*y:=by omega
    have nlt : ¬ (x - k*y<F):=hlt
    go_wp2_with fail
    refine(hTs.out _).mono ?_
    rintro e w4 ⟨rfl,rfl⟩
    by_cases hlt2:y - (x - k*y)<F+T
    ·obtain⟨p0,p1,p2,p3⟩:=K8'.out.cells4
     obtain⟨r0,r1,r2,r3⟩:=K4'.out.frozen4
     obtain⟨q0,q1,q2,q3⟩:=K4'.out.cells4
     go_wp2
     obtain⟨WF,hWF⟩ : ∃W,W=((((w4.setCell ⟨w.heap.size,0,none⟩ (.int .i64 a)).setCell ⟨w.heap.size,1,none⟩ (.int .i64 b)).setCell ⟨w.heap.size,2,none⟩ (.int .i64 c')).setCell ⟨w.heap.size,3,none⟩ (.int .i64 dd)):=⟨_,rfl⟩
     rw [← hWF]
     have kq:Blk WF w.heap.size 149 #[.int .i64 a,.int .i64 b,.int .i64 c',.int .i64 dd]:=by rw [hWF];exact K4'.out.own4
     have hBF:Below w.heap.size w WF := jcm
     have HE:=HP.out (.returned (.agg #[.int .i64 a,.int .i64 b,.int .i64 c',.int .i64 dd])) WF ⟨_,_,_,_,rfl,hBF,s,P,Q,R,T,_,_,HI.out,HA.out.symm,HB'.out.symm,HC.out.symm,HDD.out.symm⟩
     obtain⟨e0,e1,e2,e3⟩:=kq.cells4
     clear hWF
     exact bodyPost_ret (v := .agg #[.int .i64 a,.int .i64 b,.int .i64 c',.int .i64 dd]) jb9 rfl HE
    ·have HN':=Lib.hid (HN.out c1 j0a)
     obtain⟨p0,p1,p2,p3⟩:=K8'.out.cells4
     obtain⟨r0,r1,r2,r3⟩:=K8'.out.frozen4
     go_wp2
     go_region
     go_wp2
     go_roundw
     case rel =>
      refine⟨-s,y,x - k*y,R,T,E,F,rfl,rfl,HN'.out,K4'.out.other4 j0a,?_,(Below.set4 HB2.out (show w.heap.size≤w.heap.size+1 by omega)).drew⟩
      have V:=HV.out
      rw [V.2.1,V.1,V.2.2.1,V.2.2.2]
      exact K8'.out.own4.drew_
     case measure=>simp [intOf];omega
  ·have hy0:=hinv.1.2.2.2.2.2.2.2.2.2.2.2.1
   obtain rfl:y=0 := j0a
   clear hinv hy hy0
   obtain⟨p0,p1,p2,p3⟩:=k8.cells4
   obtain⟨q0,q1,q2,q3⟩:=k4.cells4
   obtain⟨r0,r1,r2,r3⟩:=k4.frozen4
   have K8:=Lib.hid k8
   have K4:=Lib.hid k4
   clear k8 k4 hbl
   go_wp2
   obtain⟨WF,hWF⟩ : ∃W,W=((((wr.setCell ⟨w.heap.size,0,none⟩ (.int .i64 (s*P))).setCell ⟨w.heap.size,1,none⟩ (.int .i64 (-(s*Q)))).setCell ⟨w.heap.size,2,none⟩ (.int .i64 (-(s*R)))).setCell ⟨w.heap.size,3,none⟩ (.int .i64 (s*T))):=⟨_,rfl⟩
   rw [← hWF]
   have kq:Blk WF w.heap.size 149 #[.int .i64 (s*P),.int .i64 (-(s*Q)),.int .i64 (-(s*R)),.int .i64 (s*T)]:=by rw [hWF];exact K4.out.own4
   have hBF:Below w.heap.size w WF:=by rw [hWF];exact Below.set4 HB.out (Nat.le_refl _)
   have HE:=HP.out (.returned (.agg #[.int .i64 (s*P),.int .i64 (-(s*Q)),.int .i64 (-(s*R)),.int .i64 (s*T)])) WF ⟨_,_,_,_,rfl,hBF,s,P,Q,R,T,_,_,HI.out,rfl,rfl,rfl,rfl⟩
   obtain⟨e0,e1,e2,e3⟩:=kq.cells4
   clear hWF
   exact bodyPost_ret (v := .agg #[.int .i64 (s*P),.int .i64 (-(s*Q)),.int .i64 (-(s*R)),.int .i64 (s*T)]) jb9 rfl HE
end Go.Proofs.YtgilnmhejjpleaaGreat
