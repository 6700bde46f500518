/- Contracts: foresee. -/
import Derived.Test.YtgilnmhejjpleaaGreatPLr
import Derived.Test.YtgilnmhejjpleaaGreatPBlk
import Derived.Test.YtgilnmhejjpleaaGreatPNatD
namespace Go.Proofs.YtgilnmhejjpleaaGreat
open Go.RowKit
theorem j3r6 {P:Prop}(h:P:=by rcases hsg with rfl | rfl <;> omega):P:=h
theorem jd5z {P:Prop}(h:P:=by rw [hWF]; exact Below.set4 HB2.out (Nat.le_refl _)):P:=h
theorem jui2 {P:Prop}(h:P:=by simp [results, Tryz.results142, go_sem, e0, e1, e2, e3]):P:=h
theorem jytn {P:Prop}(h:P:=by rw [← hW]; exact Blk.new _ _ rfl _ _):P:=h
def FInv(s x0 y0 x y P Q R T:Int):Prop :=
 LI s x0 y0 x y P Q R T∧x0<4611686018427387904∧Q≤T∧T<2147483648∧((Q=0∧R=0∧T=1∧P=1)∨(P≤Q∧1≤R∧1≤Q∧T≤y∧T+Q≤x - y))
theorem LI.sgn {s x0 y0 x y P Q R T:Int}(h:LI s x0 y0 x y P Q R T):s=1∨s = -1:=by
 obtain⟨_,_,_,_,_,_,_,h4,_⟩:=h
 have:(s - 1)*(s+1)=0 := j1ew
 rcases Int.mul_eq_zero.1 this with h | h
 ·exact .inl j0i3
 ·exact .inr j0i3
theorem FInv.start {x0 y0:Int}(h0:0≤y0)(h:y0≤x0)(hx:x0<4611686018427387904):FInv 1 x0 y0 x0 y0 1 0 0 1 :=
 ⟨LI.start h0 h,hx,by omega,by omega,.inl ⟨rfl,rfl,rfl,rfl⟩⟩
theorem FInv.bounds {s x0 y0 x y P Q R T:Int}(h:FInv s x0 y0 x y P Q R T)(hy:0<y) :
 0≤P∧0≤Q∧0≤R∧1≤T∧P<2147483648∧Q<2147483648∧R<2147483648∧T<2147483648∧0≤y∧y≤x∧x<4611686018427387904∧1≤x / y∧x / y<4611686018427387904∧0≤x / y*y∧x / y*y≤x∧x - x / y*y<y∧
 0≤x / y*R∧x / y*R≤x / y*T∧x / y*T≤x:=by
 obtain⟨hl,h62,hQT,hT31,hc⟩:=h
 have hb:=hl.back.1
 obtain⟨hP,hQ,hR,hT,h1,h2,h3,h4,h5,h6,h7,h8,h9⟩:=hl
 have hTy:T≤y := j0i3
 have hPb:P<2147483648 := j0i3
 have b1:1*x≤T*x:=Int.mul_le_mul_of_nonneg_right hT j0i3
 have b2:0≤Q*y:=Int.mul_nonneg hQ h8
 have hk1:1≤x / y:=(Int.le_ediv_iff_mul_le hy).2 j0i3
 have hk2:x / y≤x:=Int.ediv_le_self _ j0i3
 have e:=Int.mul_ediv_add_emod x y
 have e2:=Int.emod_lt_of_pos x hy
 have e3:=Int.emod_nonneg x (Int.ne_of_gt hy)
 have e4:y*(x / y)=x / y*y:=Int.mul_comm ..
 generalize x / y=k at *
 have c1:0≤k*R:=Int.mul_nonneg j0i3 hR
 have c2:k*R≤k*T:=Int.mul_le_mul_of_nonneg_left h5 j0i3
 have c3:k*T≤k*y:=Int.mul_le_mul_of_nonneg_left hTy j0i3
 refine⟨hP,hQ,hR,hT,hPb,by omega,by omega,hT31,h8,h9,by omega,hk1,by omega,by omega,by omega,by omega,c1,c2,by omega⟩
theorem FInv.step {s x0 y0 x y P Q R T:Int}(h:FInv s x0 y0 x y P Q R T)(hy:0<y)(hc1:Q+x / y*T≤x - x / y*y)(hc2:Q+x / y*T+T≤y - (x - x / y*y)) :
 FInv (-s) x0 y0 y (x - x / y*y) R T (P+x / y*R) (Q+x / y*T):=by
 obtain⟨hP,hQ,hR,hT,-,-,-,-,-,-,-,hk1,-,hky0,hky,hr,c1,c2,c3⟩:=h.bounds hy
 obtain⟨hl,h62,hQT,hT31,hc⟩:=h
 have hsm:=hl.small hk1 h62 hc1 hc2 j0i3
 have hst:=hl.step hk1 j0i3 j0i3
 obtain⟨_,_,_,_,_,_,_,_,h5,h6,h7,h8,h9⟩:=hl
 generalize x / y=k at *
 have d1:0≤(k - 1)*T:=Int.mul_nonneg j0i3 j0i3
 have d2:(k - 1)*T=k*T - T := j1ew
 have d3:0≤(k - 1)*R:=Int.mul_nonneg j0i3 hR
 have d4:(k - 1)*R=k*R - R := j1ew
 exact⟨hst,h62,by omega,hsm,.inr ⟨h5,by omega,by omega,hc1,by omega⟩⟩
theorem abs_sgn {s T:Int}(hs:s=1∨s = -1)(hT:0≤T):(if s*T<0 then -(s*T) else s*T)=T∧(if -(s*T)<0 then - -(s*T) else -(s*T))=T:=by
 rcases hs with rfl | rfl
 ·rw [Int.one_mul];constructor <;> split <;> omega
 ·rw [Int.neg_mul,Int.one_mul];constructor <;> split <;> omega
def Steps(x0 y0 a b c d:Int):Prop :=
 ∃s P Q R T x y:Int,FInv s x0 y0 x y P Q R T∧a=s*P∧b = -(s*Q)∧c = -(s*R)∧d=s*T
def ForePost(w w':World)(e:Ending)(x0 y0:Int):Prop :=
 ∃a b c d:Int,e = .returned (.agg #[.int .i64 a,.int .i64 b,.int .i64 c,.int .i64 d])∧Below w.heap.size w w'∧Steps x0 y0 a b c d
section
variable {w:World} {g g':Nat} {t:TypeId} {x0 x1 x2 x3 y0 y1 y2 y3:Value}
theorem Blk.cells4(h:Blk w g t #[x0,x1,x2,x3]):w.cell? ⟨g,0,none⟩=some x0∧w.cell? ⟨g,1,none⟩=some x1∧w.cell? ⟨g,2,none⟩=some x2∧w.cell? ⟨g,3,none⟩=some x3:=⟨h.cell 0,h.cell 1,h.cell 2,h.cell 3⟩
theorem Blk.frozen4(h:Blk w g t #[x0,x1,x2,x3]):w.frozen? ⟨g,0,none⟩=false∧w.frozen? ⟨g,1,none⟩=false∧w.frozen? ⟨g,2,none⟩=false∧w.frozen? ⟨g,3,none⟩=false:=⟨h.frozen 0,h.frozen 1,h.frozen 2,h.frozen 3⟩
theorem Blk.own4(h:Blk w g t #[x0,x1,x2,x3]):Blk ((((w.setCell ⟨g,0,none⟩ y0).setCell ⟨g,1,none⟩ y1).setCell ⟨g,2,none⟩ y2).setCell ⟨g,3,none⟩ y3) g t #[y0,y1,y2,y3]:=(((h.set_ 0 y0).set_ 1 y1).set_ 2 y2).set_ 3 y3
theorem Blk.other4 {cs:Array Value}(h:Blk w g t cs)(hg:g≠g'):Blk ((((w.setCell ⟨g',0,none⟩ y0).setCell ⟨g',1,none⟩ y1).setCell ⟨g',2,none⟩ y2).setCell ⟨g',3,none⟩ y3) g t cs:=(((h.other hg 0 y0).other hg 1 y1).other hg 2 y2).other hg 3 y3
theorem Below.set4 {B:Nat} {w0:World}(h:Below B w0 w)(hg:B≤g):Below B w0 ((((w.setCell ⟨g,0,none⟩ y0).setCell ⟨g,1,none⟩ y1).setCell ⟨g,2,none⟩ y2).setCell ⟨g,3,none⟩ y3):=(((h.setCell hg _).setCell hg _).setCell hg _).setCell hg _
end
set_option maxRecDepth 100000 in
set_option maxHeartbeats 4000000 in
theorem foresee_any(A:Option Addr)(n c:Nat)(f:Nat→Nat)(B:Option Addr)(m d:Nat)(h:Nat→Nat)(w:World)(ha:Rd .u32 w A (n+1) f)(hb:Rd .u32 w B m h)(hf : ∀j,j<n+1→f j<4294967296)(hh : ∀j,j<m→h j<4294967296)
 (hn:2≤n) (hn2:n≤1000000000) (ht:f n≠0) (hle:num 4294967296 h m≤num 4294967296 f (n+1)) :
 Calls Tryz.prog 142 #[.slice A (n+1) c,.slice B m d] w fun e w' => ∃D:Nat,0<D∧ForePost w w' e (num 4294967296 f (n+1) / D:Nat) (num 4294967296 h m / D:Nat):=by
 obtain⟨ad,rfl,_⟩:=ha 0 j0i3
 have hc0 : ∀o,(w.alloc o).cell? (ad.add n)=some (.int .u32 (f n:Nat)):=fun o=>(ha.below (below_new w o)).at_ (j:=n) j0i3
 have HL:=Lib.hid (fun w=>lead_any (f n) w (hf n j0i3) j0i3)
 have HA:=Lib.hid ha
 have HB:=Lib.hid hb
 have HF:=Lib.hid hf
 have HH:=Lib.hid hh
 have HLE:=Lib.hid hle
 clear ha hb hf hh hle
 go_enter Tryz.func142,Tryz.ntmps142
 go_wp2_with fail
 refine(HL.out _).mono ?_
 rintro e w' ⟨⟨z,rfl,hz,-,n2⟩,rfl⟩
 have WT:=Lib.hid (window_top hn HF.out hz n2)
 obtain⟨sh,hsh⟩ : ∃sh,sh=32*(n+1) - z - 62:=⟨_,rfl⟩
 rw [← hsh] at WT
 have hshi:(32:Int)*((n:Int)+1) - (z:Int) - 62=(sh:Int) := j0i3
 have hsb:sh≤281474976710656 := j0i3
 clear hsh n2 hc0 hz HL ht
 obtain⟨X,hX⟩ : ∃X,X=num 4294967296 f (n+1) / 2 ^ sh:=⟨_,rfl⟩
 obtain⟨Y,hY⟩ : ∃Y,Y=num 4294967296 h m / 2 ^ sh:=⟨_,rfl⟩
 have HYX:Y≤X:=by rw [hX,hY];exact Nat.div_le_div_right HLE.out
 have HX62:X<4611686018427387904:=by rw [hX];exact WT.out
 have W1:Hid (∀w',Rd .u32 w' (some ad) (n+1) f→Calls Tryz.prog 148 #[.slice (some ad) (n+1) c,.int .i64 (sh:Nat)] w' fun e w2=>e = .returned (.int .i64 (X:Nat))∧∃k,w2=w'.drewN k):=fun w' hr=>by
  rw [hX];exact window_any (some ad) (n+1) c sh f w' hr HF.out hsb WT.out
 have W2:Hid (∀w',Rd .u32 w' B m h→Calls Tryz.prog 148 #[.slice B m d,.int .i64 (sh:Nat)] w' fun e w2=>e = .returned (.int .i64 (Y:Nat))∧∃k,w2=w'.drewN k):=fun w' hr=>by
  rw [hY];exact window_any B m d sh h w' hr HH.out hsb (by rw [← hY];omega)
 have HP:Hid (∀e w2,ForePost w w2 e (X:Nat) (Y:Nat)→∃D:Nat,0<D∧ForePost w w2 e (num 4294967296 f (n+1) / D:Nat) (num 4294967296 h m / D:Nat)):=fun e w2 hp =>
  ⟨2 ^ sh,Nat.pow_pos j0i3,by rw [← hX,← hY];exact hp⟩
 clear hX hY WT HLE
 go_wp2_with fail
 refine(W1.out _ (HA.out.below (below_new _ _))).mono ?_
 rintro e w' ⟨rfl,k1,rfl⟩
 go_wp2_with fail
 refine(W2.out _ ((HB.out.below (below_new _ _)).below (Below.drewN_ (Below.refl _ _) _))).mono ?_
 rintro e w' ⟨rfl,k2,rfl⟩
 clear W1 W2 HA HB HF HH
 go_wp2
 obtain⟨w1,hw1⟩ : ∃W,W=(((w.alloc (Obj.cells #[Value.int IntKind.i64 0,Value.int IntKind.i64 0,Value.int IntKind.i64 0,Value.int IntKind.i64 0] 149)).drewN (k1+k2)).alloc (Obj.cells #[Value.int IntKind.i64 1,Value.int IntKind.i64 0,Value.int IntKind.i64 0,Value.int IntKind.i64 1] 149)):=⟨_,rfl⟩
 have K4:Hid (Blk w1 w.heap.size 149 #[.int .i64 0,.int .i64 0,.int .i64 0,.int .i64 0]):=by
  rw [hw1]
  exact((show Blk _ _ _ _ from Blk.new w w.heap.size rfl 149 _).below (Below.drewN_ (Below.refl _ _) _)).alloc_ _
 have K8:Hid (Blk w1 (w.heap.size+1) 149 #[.int .i64 1,.int .i64 0,.int .i64 0,.int .i64 1]):=by
  rw [hw1]
  exact Blk.new _ _ jupy _ _
 have B1:Hid (Below w.heap.size w w1):=by
  rw [hw1]
  exact(Below.drewN_ (below_new w _) _).alloc jupy _
 rw [← hw1]
 clear hw1
 go_loopw [6,7] (fun v6 v7 wr => ∃s x y P Q R T:Int,v6 = .int .i64 x∧v7 = .int .i64 y∧FInv s X Y x y P Q R T∧Blk wr w.heap.size 149 #[.int .i64 0,.int .i64 0,.int .i64 0,.int .i64 0]∧
  Blk wr (w.heap.size+1) 149 #[.int .i64 (s*P),.int .i64 (-(s*Q)),.int .i64 (-(s*R)),.int .i64 (s*T)]∧Below w.heap.size w wr) (fun _ v7 _=>(intOf v7).toNat)
 case atStart=>exact⟨1,X,Y,1,0,0,1,rfl,rfl,FInv.start j0i3 j0i3 j0i3,K4.out,by simpa using K8.out,B1.out⟩
 case round =>
  clear K4 K8 B1
  obtain⟨s,x,y,P,Q,R,T,rfl,rfl,hinv,k4,k8,hbl⟩:=hrel
  have HI:=Lib.hid hinv
  have HB:=Lib.hid hbl
  by_cases hy:0<y
  ·obtain⟨hP,hQ,hR,hT,u1,u2,u3,u4,u5,u6,u7,u8,u9,u10,u11,u12,u13,u14,u15⟩:=hinv.bounds hy
   have hsg:=hinv.1.sgn
   have HST:=Lib.hid (hinv.step hy)
   have hq0:x / y=x / y:=rfl
   obtain⟨k,hk⟩ : ∃k,k=x / y:=⟨_,rfl⟩
   rw [← hk] at u8 u9 u10 u11 u12 u13 u14 u15 HST
   have hk':x / y=k:=hk.symm
   clear hk hq0 hinv
   obtain⟨F,hF⟩ : ∃F,F=Q+k*T:=⟨_,rfl⟩
   obtain⟨E,hE⟩ : ∃E,E=P+k*R:=⟨_,rfl⟩
   have hF0:0≤F:=by rw [hF];have:0≤k*T:=Int.mul_nonneg j0i3 j0i3;omega
   have hF1:F≤4611686020574871551:=by rw [hF];omega
   have hFs:Hid (∀w',Calls Tryz.prog 149 #[.int .i64 (-(s*Q) - k*(s*T))] w' fun e w2=>e = .returned (.int .i64 F)∧w2=w'):=fun w'=>by
    have e : -(s*Q) - k*(s*T) = -(s*F):=by rw [hF];grind
    have:=size_any (-(s*F)) w' j3r6 j3r6
    rw [e]
    rwa [(abs_sgn hsg hF0).2] at this
   have hTs:Hid (∀w',Calls Tryz.prog 149 #[.int .i64 (s*T)] w' fun e w2=>e = .returned (.int .i64 T)∧w2=w'):=fun w'=>by
    have:=size_any (s*T) w' j3r6 j3r6
    rwa [(abs_sgn hsg j0i3).1] at this
   have HN:Hid (F≤x - k*y→F+T≤y - (x - k*y)→FInv (-s) X Y y (x - k*y) R T E F):=fun c1 c2=>by
    rw [hE,hF];rw [hF] at c1 c2;exact HST.out c1 c2
   have HV:Hid (-(s*Q) - k*(s*T) = -s*F∧s*P - k * -(s*R) = -(-s*E)∧ -(s*R) = -s*R∧s*T = -(-s*T)):=by
    refine⟨by rw [hF];grind,by rw [hE];grind,by grind,by grind⟩
   have m1 : -4611686018427387904<k * -(s*R)∧k * -(s*R)<4611686018427387904:=by
    rcases hsg with rfl | rfl
    ·rw [Int.one_mul,Int.mul_neg];omega
    ·rw [Int.neg_mul,Int.one_mul,Int.neg_neg];omega
   have m2 : -4611686018427387904<k*(s*T)∧k*(s*T)<4611686018427387904:=by
    rcases hsg with rfl | rfl
    ·rw [Int.one_mul];omega
    ·rw [Int.neg_mul,Int.one_mul,Int.mul_neg];omega
   have a1 : -2147483648<s*P∧s*P<2147483648 := j3r6
   have a2 : -2147483648 < -(s*Q)∧ -(s*Q)<2147483648 := j3r6
   have a3 : -2147483648 < -(s*R)∧ -(s*R)<2147483648 := j3r6
   have a4 : -2147483648<s*T∧s*T<2147483648 := j3r6
   clear HST hF hE hsg hP hQ hR u1 u2 u3 u13 u14 u15
   generalize hA:s*P=a at *
   generalize hB : -(s*Q)=b at *
   generalize hC : -(s*R)=c' at *
   generalize hDD:s*T=dd at *
   have HA:=Lib.hid hA
   have HB':=Lib.hid hB
   have HC:=Lib.hid hC
   have HDD:=Lib.hid hDD
   obtain⟨p0,p1,p2,p3⟩:=k8.cells4
   have K8:=Lib.hid k8
   have K4:=Lib.hid k4
   have lt8:=k8.lt
   clear k8 k4 hbl hA hB hC hDD
   have hg:(y == 0)=false := jyif
   have hg2:(y != 0)=true := jha1
   obtain⟨m3,m4⟩:=m1
   obtain⟨m5,m6⟩:=m2
   obtain⟨a5,a6⟩:=a1
   obtain⟨a7,a8⟩:=a2
   obtain⟨a9,a10⟩:=a3
   obtain⟨a11,a12⟩:=a4
   go_wp2_with fail
   refine(hFs.out _).mono ?_
   rintro e w2 ⟨rfl,hw2⟩
   generalize hW:(wr.alloc (Obj.cells #[Value.int IntKind.i64 c',Value.int IntKind.i64 dd,Value.int IntKind.i64 (a - k*c'),Value.int IntKind.i64 (b - k*dd)] 149))=w3 at *
   subst hw2
   have K8':=Lib.hid (show Blk w2 (w.heap.size+1) 149 #[.int .i64 a,.int .i64 b,.int .i64 c',.int .i64 dd] from by rw [← hW];exact K8.out.alloc_ _)
   have K4':=Lib.hid (show Blk w2 w.heap.size 149 #[.int .i64 0,.int .i64 0,.int .i64 0,.int .i64 0] from by rw [← hW];exact K4.out.alloc_ _)
   have K9:=Lib.hid (show Blk w2 wr.heap.size 149 #[.int .i64 c',.int .i64 dd,.int .i64 (a - k*c'),.int .i64 (b - k*dd)] from jytn)
   have HB2:=Lib.hid (show Below w.heap.size w w2 from by rw [← hW];exact HB.out.alloc HB.out.size _)
   obtain⟨n0,n1,n2,n3⟩:=K9.out.cells4
   clear hW K8 K4 HB p0 p1 p2 p3
   by_cases hlt:x - k*y<F
   ·obtain⟨p0,p1,p2,p3⟩:=K8'.out.cells4
    obtain⟨r0,r1,r2,r3⟩:=K4'.out.frozen4
    obtain⟨q0,q1,q2,q3⟩:=K4'.out.cells4
    go_wp2
    obtain⟨WF,hWF⟩ : ∃W,W=((((w2.setCell ⟨w.heap.size,0,none⟩ (.int .i64 a)).setCell ⟨w.heap.size,1,none⟩ (.int .i64 b)).setCell ⟨w.heap.size,2,none⟩ (.int .i64 c')).setCell ⟨w.heap.size,3,none⟩ (.int .i64 dd)):=⟨_,rfl⟩
    rw [← hWF]
    have kq:Blk WF w.heap.size 149 #[.int .i64 a,.int .i64 b,.int .i64 c',.int .i64 dd]:=by rw [hWF];exact K4'.out.own4
    have hBF:Below w.heap.size w WF := jd5z
    have HE:=HP.out (.returned (.agg #[.int .i64 a,.int .i64 b,.int .i64 c',.int .i64 dd])) WF ⟨_,_,_,_,rfl,hBF,s,P,Q,R,T,_,_,HI.out,HA.out.symm,HB'.out.symm,HC.out.symm,HDD.out.symm⟩
    obtain⟨e0,e1,e2,e3⟩:=kq.cells4
    clear hWF
    exact bodyPost_ret (v := .agg #[.int .i64 a,.int .i64 b,.int .i64 c',.int .i64 dd]) jui2 rfl HE
   ·have c1:F≤x - k*y:=by omega
    have nlt : ¬ (x - k*y<F):=hlt
    go_wp2_with fail
    refine(hTs.out _).mono ?_
    rintro e w4 ⟨rfl,rfl⟩
    by_cases hlt2:y - (x - k*y)<F+T
    ·obtain⟨p0,p1,p2,p3⟩:=K8'.out.cells4
     obtain⟨r0,r1,r2,r3⟩:=K4'.out.frozen4
     obtain⟨q0,q1,q2,q3⟩:=K4'.out.cells4
     go_wp2
     obtain⟨WF,hWF⟩ : ∃W,W=((((w4.setCell ⟨w.heap.size,0,none⟩ (.int .i64 a)).setCell ⟨w.heap.size,1,none⟩ (.int .i64 b)).setCell ⟨w.heap.size,2,none⟩ (.int .i64 c')).setCell ⟨w.heap.size,3,none⟩ (.int .i64 dd)):=⟨_,rfl⟩
     rw [← hWF]
     have kq:Blk WF w.heap.size 149 #[.int .i64 a,.int .i64 b,.int .i64 c',.int .i64 dd]:=by rw [hWF];exact K4'.out.own4
     have hBF:Below w.heap.size w WF := jd5z
     have HE:=HP.out (.returned (.agg #[.int .i64 a,.int .i64 b,.int .i64 c',.int .i64 dd])) WF ⟨_,_,_,_,rfl,hBF,s,P,Q,R,T,_,_,HI.out,HA.out.symm,HB'.out.symm,HC.out.symm,HDD.out.symm⟩
     obtain⟨e0,e1,e2,e3⟩:=kq.cells4
     clear hWF
     exact bodyPost_ret (v := .agg #[.int .i64 a,.int .i64 b,.int .i64 c',.int .i64 dd]) jui2 rfl HE
    ·have HN':=Lib.hid (HN.out c1 j0i3)
     obtain⟨p0,p1,p2,p3⟩:=K8'.out.cells4
     obtain⟨r0,r1,r2,r3⟩:=K8'.out.frozen4
     go_wp2
     go_region
     go_wp2
     go_roundw
     case rel =>
      refine⟨-s,y,x - k*y,R,T,E,F,rfl,rfl,HN'.out,K4'.out.other4 j0i3,?_,(Below.set4 HB2.out (show w.heap.size≤w.heap.size+1 by omega)).drew⟩
      have V:=HV.out
      rw [V.2.1,V.1,V.2.2.1,V.2.2.2]
      exact K8'.out.own4.drew_
     case measure=>simp [intOf];omega
  ·have hy0:=hinv.1.2.2.2.2.2.2.2.2.2.2.2.1
   obtain rfl:y=0 := j0i3
   clear hinv hy hy0
   obtain⟨p0,p1,p2,p3⟩:=k8.cells4
   obtain⟨q0,q1,q2,q3⟩:=k4.cells4
   obtain⟨r0,r1,r2,r3⟩:=k4.frozen4
   have K8:=Lib.hid k8
   have K4:=Lib.hid k4
   clear k8 k4 hbl
   go_wp2
   obtain⟨WF,hWF⟩ : ∃W,W=((((wr.setCell ⟨w.heap.size,0,none⟩ (.int .i64 (s*P))).setCell ⟨w.heap.size,1,none⟩ (.int .i64 (-(s*Q)))).setCell ⟨w.heap.size,2,none⟩ (.int .i64 (-(s*R)))).setCell ⟨w.heap.size,3,none⟩ (.int .i64 (s*T))):=⟨_,rfl⟩
   rw [← hWF]
   have kq:Blk WF w.heap.size 149 #[.int .i64 (s*P),.int .i64 (-(s*Q)),.int .i64 (-(s*R)),.int .i64 (s*T)]:=by rw [hWF];exact K4.out.own4
   have hBF:Below w.heap.size w WF:=by rw [hWF];exact Below.set4 HB.out (Nat.le_refl _)
   have HE:=HP.out (.returned (.agg #[.int .i64 (s*P),.int .i64 (-(s*Q)),.int .i64 (-(s*R)),.int .i64 (s*T)])) WF ⟨_,_,_,_,rfl,hBF,s,P,Q,R,T,_,_,HI.out,rfl,rfl,rfl,rfl⟩
   obtain⟨e0,e1,e2,e3⟩:=kq.cells4
   clear hWF
   exact bodyPost_ret (v := .agg #[.int .i64 (s*P),.int .i64 (-(s*Q)),.int .i64 (-(s*R)),.int .i64 (s*T)]) jui2 rfl HE
end Go.Proofs.YtgilnmhejjpleaaGreat
namespace Go.Proofs.YtgilnmhejjpleaaGreat
open Go.RowKit
def Comb(a b x:Int)(fa gb F:Nat→Nat)(k:Nat):Prop :=
 -2147483648≤x∧x<2147483648∧(∀j,j<k→F j<4294967296)∧(num 4294967296 F k:Int)+x*4294967296 ^ k=a*num 4294967296 fa k+b*num 4294967296 gb k
theorem Comb.start(a b:Int)(fa gb F:Nat→Nat):Comb a b 0 fa gb F 0:=⟨by omega,by omega,fun _ h=>absurd h j0i3,by simp [num]⟩
def Fac(a b:Int):Prop:=(0≤a∧a<2147483648∧b≤0∧ -2147483648<b)∨(a≤0∧ -2147483648<a∧0≤b∧b<2147483648)
theorem prod_b {a:Int} {m:Nat}(h0:0≤a)(h1:a<2147483648)(hm:m<4294967296):0≤a*(m:Int)∧a*(m:Int)≤9223372030412324865:=by
 refine⟨Int.mul_nonneg h0 j0i3,?_⟩
 have:a*(m:Int)≤2147483647*4294967295:=Int.mul_le_mul j0i3 j0i3 j0i3 j0i3
 omega
theorem Fac.prods {a b:Int}(h:Fac a b) {m n:Nat}(hm:m<4294967296)(hn:n<4294967296) :
 -9223372030412324865≤a*(m:Int)∧a*(m:Int)≤9223372030412324865∧ -9223372030412324865≤b*(n:Int)∧b*(n:Int)≤9223372030412324865∧ -9223372030412324865≤a*(m:Int)+b*(n:Int)∧a*(m:Int)+b*(n:Int)≤9223372030412324865:=by
 rcases h with ⟨h1,h2,h3,h4⟩ | ⟨h1,h2,h3,h4⟩
 ·have p:=prod_b h1 h2 hm
  have q:=prod_b (a := -b) j0i3 j0i3 hn
  rw [Int.neg_mul] at q
  omega
 ·have p:=prod_b h3 h4 hn
  have q:=prod_b (a := -a) j0i3 j0i3 hm
  rw [Int.neg_mul] at q
  omega
theorem Comb.step {a b x Z:Int} {fa gb F:Nat→Nat} {k zn:Nat}(h:Comb a b x fa gb F k)(hf:Fac a b)(h1:fa k<4294967296)(h2:gb k<4294967296)(hZ:Z=x+(a*(fa k:Int)+b*(gb k:Int)))(hz:Z % 4294967296=(zn:Int)) :
 Comb a b (Z / 4294967296) fa gb (upd F k zn) (k+1):=by
 obtain⟨c1,c2,c3,c4⟩:=h
 obtain⟨p1,p2,p3,p4,p5,p6⟩:=hf.prods h1 h2
 have hzn:zn<4294967296 := j0i3
 refine⟨by omega,by omega,fun j hj=>?_,?_⟩
 ·by_cases e:j=k
  ·subst e;rw [upd_same];exact hzn
  ·rw [upd_ne _ _ _ e];exact c3 j j0i3
 ·rw [num_succ,num_succ,num_succ,upd_same,num_upd _ _ (Nat.le_refl _)]
  have e:Z=zn+4294967296*(Z / 4294967296) := j0i3
  generalize Z / 4294967296=q at *
  have hp:(4294967296:Int) ^ (k+1)=4294967296 ^ k*4294967296:=Int.pow_succ ..
  have hc:((4294967296 ^ k:Nat):Int)=4294967296 ^ k:=by rw [Int.natCast_pow];rfl
  rw [Int.natCast_add,Int.natCast_add,Int.natCast_add,Int.natCast_mul,Int.natCast_mul,Int.natCast_mul,hp,hc]
  generalize (4294967296:Int) ^ k=L at *
  have:x=zn+4294967296*q - (a*(fa k:Int)+b*(gb k:Int)) := j0i3
  subst this
  grind
theorem Comb.end_ {a b x:Int} {fa gb F:Nat→Nat} {n N:Nat}(h:Comb a b x fa gb F n)(hN:a*num 4294967296 fa n+b*num 4294967296 gb n=(N:Int))(hl:N<4294967296 ^ n):num 4294967296 F n=N:=by
 obtain⟨c1,c2,c3,c4⟩:=h
 have h1:=num_lt (B:=4294967296) j0i3 n c3
 rw [hN] at c4
 have hc:(4294967296:Int) ^ n=((4294967296 ^ n:Nat):Int):=by rw [Int.natCast_pow];rfl
 rw [hc] at c4
 generalize 4294967296 ^ n=L at *
 generalize num 4294967296 F n=M at *
 have hx:x=0:=by
  rcases Int.lt_trichotomy x 0 with h | h | h
  ·have:x*(L:Int)≤ -1*(L:Int):=Int.mul_le_mul_of_nonneg_right j0i3 j0i3
   omega
  ·exact h
  ·have:1*(L:Int)≤x*(L:Int):=Int.mul_le_mul_of_nonneg_right j0i3 j0i3
   omega
 subst hx
 omega
theorem num_cut {f:Nat→Nat} {m n:Nat}(hm:m≤n)(h:num 4294967296 f n<4294967296 ^ m):num 4294967296 f m=num 4294967296 f n:=by
 obtain⟨k,rfl⟩ : ∃k,n=m+k:=⟨n - m,by omega⟩
 rw [num_add] at h ⊢
 generalize num 4294967296 (fun j=>f (m+j)) k=r at *
 generalize 4294967296 ^ m=L at *
 rcases Nat.eq_zero_or_pos r with h0 | h0
 ·subst h0;simp
 ·have:L*1≤L*r:=Nat.mul_le_mul_left _ h0
  omega
def TInv(B:Nat)(w wr:World)(ga sa gb sb m g3 k:Nat)(a b c d x y:Int)(fa fb Fa Fb G:Nat→Nat):Prop :=
 Row .u32 117 wr ga sa Fa∧Row .u32 117 wr gb sb Fb∧Blk wr g3 149 #[.int .i64 a,.int .i64 b,.int .i64 c,.int .i64 d]∧Below B w wr∧(∀j,k≤j→Fa j=fa j)∧(∀j,k≤j→Fb j=fb j)∧
  Comb a b x fa (limbOf fb m) Fa k∧Comb c d y fa (limbOf fb m) G k∧(∀j,j<k→j<m→Fb j=G j)
theorem TInv.drewN {B:Nat} {w wr:World} {ga sa gb sb m g3 k:Nat} {a b c d x y:Int} {fa fb Fa Fb G:Nat→Nat}(h:TInv B w wr ga sa gb sb m g3 k a b c d x y fa fb Fa Fb G)(q:Nat):TInv B w (wr.drewN q) ga sa gb sb m g3 k a b c d x y fa fb Fa Fb G:=by
 obtain⟨h1,h2,h3,h4,h5⟩:=h
 exact⟨h1.keep (Below.drewN_ (Below.refl _ _) _),h2.keep (Below.drewN_ (Below.refl _ _) _),h3.below (Below.drewN_ (Below.refl _ _) _),Below.drewN_ h4 _,h5⟩
theorem TInv.stepA {B:Nat} {w wr:World} {ga sa gb sb m g3 k:Nat} {a b c d x y:Int} {fa fb Fa Fb G:Nat→Nat}(h:TInv B w wr ga sa gb sb m g3 k a b c d x y fa fb Fa Fb G)(hab:ga≠gb)(ha3:ga≠g3)(hBa:B≤ga)(hk:m≤k)
 (f1:Fac a b) (f2:Fac c d) (h1:fa k<4294967296) (h2:limbOf fb m k<4294967296) {X Y:Int} {xn yn:Nat} (hX:X=x+(a*(fa k:Int)+b*(limbOf fb m k:Int))) (hx:X % 4294967296=(xn:Int)) (hY:Y=y+(c*(fa k:Int)+d*(limbOf fb m k:Int))) (hy:Y % 4294967296=(yn:Int)) :
 TInv B w (wr.setCell ⟨ga,k,none⟩ (.int .u32 xn)) ga sa gb sb m g3 (k+1) a b c d (X / 4294967296) (Y / 4294967296) fa fb (upd Fa k xn) Fb (upd G k yn):=by
 obtain⟨i1,i2,i3,i4,i5,i6,i7,i8,i9⟩:=h
 refine⟨i1.set_ _ _,i2.wr (Ne.symm hab) (Wr.set_ _ _ _ _),i3.other (Ne.symm ha3) _ _,i4.setCell hBa _,fun j hj=>?_,fun j hj=>i6 j j0i3,i7.step f1 h1 h2 hX hx,i8.step f2 h1 h2 hY hy,fun j hj hm=>?_⟩
 ·rw [upd_ne _ _ _ j0i3];exact i5 j j0i3
 ·rw [upd_ne _ _ _ j0i3];exact i9 j j0i3 hm
theorem TInv.stepB {B:Nat} {w wr:World} {ga sa gb sb m g3 k:Nat} {a b c d x y:Int} {fa fb Fa Fb G:Nat→Nat}(h:TInv B w wr ga sa gb sb m g3 k a b c d x y fa fb Fa Fb G)(hab:ga≠gb)(ha3:ga≠g3)(hb3:gb≠g3)(hBa:B≤ga)(hBb:B≤gb)
 (f1:Fac a b) (f2:Fac c d) (h1:fa k<4294967296) (h2:limbOf fb m k<4294967296) {X Y:Int} {xn yn:Nat} (hX:X=x+(a*(fa k:Int)+b*(limbOf fb m k:Int))) (hx:X % 4294967296=(xn:Int)) (hY:Y=y+(c*(fa k:Int)+d*(limbOf fb m k:Int))) (hy:Y % 4294967296=(yn:Int)) :
 TInv B w ((wr.setCell ⟨ga,k,none⟩ (.int .u32 xn)).setCell ⟨gb,k,none⟩ (.int .u32 yn)) ga sa gb sb m g3 (k+1) a b c d (X / 4294967296) (Y / 4294967296) fa fb (upd Fa k xn) (upd Fb k yn) (upd G k yn):=by
 obtain⟨i1,i2,i3,i4,i5,i6,i7,i8,i9⟩:=h
 refine⟨(i1.set_ _ _).wr hab (Wr.set_ _ _ _ _),(i2.wr (Ne.symm hab) (Wr.set_ _ _ _ _)).set_ _ _,(i3.other (Ne.symm ha3) _ _).other (Ne.symm hb3) _ _,(i4.setCell hBa _).setCell hBb _,fun j hj=>?_,fun j hj=>?_,i7.step f1 h1 h2 hX hx,i8.step f2 h1 h2 hY hy,fun j hj hm=>?_⟩
 ·rw [upd_ne _ _ _ j0i3];exact i5 j j0i3
 ·rw [upd_ne _ _ _ j0i3];exact i6 j j0i3
 ·by_cases e:j=k
  ·subst e;rw [upd_same,upd_same]
  ·rw [upd_ne _ _ _ e,upd_ne _ _ _ e];exact i9 j j0i3 hm
def TakePost(B:Nat)(w w':World)(e:Ending)(ga sa n gb sb m X Y:Nat):Prop :=
 ∃Fa Fb,e = .returned (.tuple #[])∧Row .u32 117 w' ga sa Fa∧Row .u32 117 w' gb sb Fb∧Below B w w'∧(∀j,j<n→Fa j<4294967296)∧(∀j,j<m→Fb j<4294967296)∧num 4294967296 Fa n=X∧num 4294967296 Fb m=Y
theorem TInv.done {B:Nat} {w wr:World} {ga sa gb sb m g3 n:Nat} {a b c d x y:Int} {fa fb Fa Fb G:Nat→Nat}(h:TInv B w wr ga sa gb sb m g3 n a b c d x y fa fb Fa Fb G)(hm:m≤n) {X Y:Nat}
 (hX:a*num 4294967296 fa n+b*num 4294967296 fb m=(X:Int)) (hY:c*num 4294967296 fa n+d*num 4294967296 fb m=(Y:Int)) (hXl:X<4294967296 ^ n) (hYl:Y<4294967296 ^ m):TakePost B w wr (.returned (.tuple #[])) ga sa n gb sb m X Y:=by
 obtain⟨i1,i2,i3,i4,i5,i6,i7,i8,i9⟩:=h
 have e:num 4294967296 (limbOf fb m) n=num 4294967296 fb m:=num_pad n hm
 rw [← e] at hX hY
 have hYn:Y<4294967296 ^ n:=Nat.lt_of_lt_of_le hYl (Nat.pow_le_pow_right j0i3 hm)
 have e2:=i8.end_ hY hYn
 refine⟨Fa,Fb,rfl,i1,i2,i4,i7.2.2.1,fun j hj=>?_,i7.end_ hX hXl,?_⟩
 ·rw [i9 j j0i3 hj];exact i8.2.2.1 j j0i3
 ·rw [num_congr (f':=G) m (fun j hj=>i9 j j0i3 hj),num_cut hm (by rw [e2];exact hYl),e2]
set_option maxRecDepth 100000 in
set_option maxHeartbeats 4000000 in
theorem take_any(B ga sa n ca gb sb m cb:Nat)(a b c d:Int)(fa fb:Nat→Nat)(w:World)(ra:Row .u32 117 w ga sa fa)(rb:Row .u32 117 w gb sb fb)(hna:n≤sa)(hmb:m≤sb)(hmn:m≤n)(hab:ga≠gb)(hBa:B≤ga)(hBb:B≤gb)
 (hfa : ∀j,j<n→fa j<4294967296) (hfb : ∀j,j<m→fb j<4294967296) (f1:Fac a b) (f2:Fac c d) (hn:n≤1000000000) {X Y:Nat}
 (hX:a*num 4294967296 fa n+b*num 4294967296 fb m=(X:Int)) (hY:c*num 4294967296 fa n+d*num 4294967296 fb m=(Y:Int)) (hXl:X<4294967296 ^ n) (hYl:Y<4294967296 ^ m) :
 Calls Tryz.prog 143 #[.agg #[.int .i64 a,.int .i64 b,.int .i64 c,.int .i64 d],.slice (some ⟨ga,0,none⟩) n ca,.slice (some ⟨gb,0,none⟩) m cb] w fun e w'=>TakePost B w w' e ga sa n gb sb m X Y:=by
 have HDN:Hid (∀wr x y Fa Fb G,TInv B w wr ga sa gb sb m w.heap.size n a b c d x y fa fb Fa Fb G→TakePost B w wr (.returned (.tuple #[])) ga sa n gb sb m X Y):=fun wr x y Fa Fb G h=>h.done hmn hX hY hXl hYl
 have la:=ra.lt
 have lb:=rb.lt
 have I0:Hid (TInv B w (w.alloc (.cells #[.int .i64 a,.int .i64 b,.int .i64 c,.int .i64 d] 149)) ga sa gb sb m w.heap.size 0 a b c d 0 0 fa fb fa fb (fun _=>0)) :=
  ⟨ra.keep (below_new _ _),rb.keep (below_new _ _),Blk.new _ _ rfl _ _,(Below.refl _ _).alloc j0i3 _,fun _ _=>rfl,fun _ _=>rfl,Comb.start _ _ _ _ _,Comb.start _ _ _ _ _,fun j hj=>absurd hj j0i3⟩
 have HFA:=Lib.hid hfa
 have HFB:=Lib.hid hfb
 have F1:=Lib.hid f1
 have F2:=Lib.hid f2
 clear ra rb hfa hfb f1 f2 hX hY hXl hYl
 go_enter Tryz.func143,Tryz.ntmps143
 go_wp2
 generalize hG:w.heap.size=g3 at *
 go_loopw [6,7,13] (fun v6 v7 v13 wr => ∃k x y Fa Fb G,k≤n∧v6 = .int .i64 x∧v7 = .int .i64 y∧v13 = .int .i64 (k:Nat)∧TInv B w wr ga sa gb sb m g3 k a b c d x y fa fb Fa Fb G) (fun _ _ v13 _=>n - (intOf v13).toNat)
 case atStart=>exact⟨0,0,0,fa,fb,_,Nat.zero_le _,rfl,rfl,rfl,I0.out⟩
 case round =>
  obtain⟨k,x,y,Fa,Fb,G,hk,rfl,rfl,rfl,hinv⟩:=hrel
  clear I0
  by_cases hlt:k<n
  ·have HI:=Lib.hid hinv
   have hcell:=hinv.1.cell (j:=k) j0i3
   rw [hinv.2.2.2.2.1 k (Nat.le_refl _)] at hcell
   have b0:=HFA.out k hlt
   have b1:=limbOf_lt HFB.out k
   obtain⟨p1,p2,p3,p4,p5,p6⟩:=F1.out.prods b0 b1
   obtain⟨q1,q2,q3,q4,q5,q6⟩:=F2.out.prods b0 b1
   obtain⟨x1,x2,-⟩:=hinv.2.2.2.2.2.2.1
   obtain⟨y1,y2,-⟩:=hinv.2.2.2.2.2.2.2.1
   have hfb' : ∀j,j<m→Fb j<4294967296∨j<k:=fun j hj=>by
    by_cases h:j<k
    ·exact .inr h
    ·left;rw [hinv.2.2.2.2.2.1 j j0i3];exact HFB.out j hj
   have hFb : ∀j,j<m→Fb j<4294967296:=fun j hj=>by
    by_cases h:j<k
    ·rw [hinv.2.2.2.2.2.2.2.2 j h hj];exact hinv.2.2.2.2.2.2.2.1.2.2.1 j h
    ·rw [hinv.2.2.2.2.2.1 j j0i3];exact HFB.out j hj
   have el:limbOf Fb m k=limbOf fb m k:=by
    unfold limbOf;split
    ·exact hinv.2.2.2.2.2.1 k (Nat.le_refl _)
    ·rfl
   have DL:Hid (∀w',Rd .u32 w' (some ⟨gb,0,none⟩) m Fb→Calls Tryz.prog 144 #[.slice (some ⟨gb,0,none⟩) m cb,.int .i64 (k:Nat)] w' fun e w2=>e = .returned (.int .u64 (limbOf fb m k:Nat))∧w2=w'):=fun w' hr=>by
    rw [← el];exact limb_any _ m cb k Fb w' hr hFb
   have HRB:=Lib.hid (hinv.2.1.rd0 hmb)
   clear hinv hfb' hFb el
   obtain⟨u,hu⟩ : ∃u,u=fa k:=⟨_,rfl⟩
   obtain⟨v,hv⟩ : ∃v,v=limbOf fb m k:=⟨_,rfl⟩
   rw [← hu] at hcell b0 p1 p2 p5 p6 q1 q2 q5 q6
   rw [← hv] at b1 p3 p4 p5 p6 q3 q4 q5 q6 DL
   have HU:=Lib.hid hu
   have HV:=Lib.hid hv
   have hiu:IntKind.i64.wrap (u:Int)=(u:Int):=IntWalk.i64_in _ j0i3
   have hiv:IntKind.i64.wrap (v:Int)=(v:Int):=IntWalk.i64_in _ j0i3
   clear hu hv
   go_wp2
   go_quiet ((go_at_call 144;exact Calls.quiet_of_same (DL.out _ HRB.out)))
   generalize hW:World.drewN wr _=w2
   have HI2:=Lib.hid (show TInv B w w2 ga sa gb sb m g3 k a b c d x y fa fb Fa Fb G from by rw [← hW];exact HI.out.drewN _)
   obtain⟨c0,c1,c2,c3⟩:=HI2.out.2.2.1.cells4
   have ca0:=HI2.out.1.cell (j:=k) j0i3
   have ca1:=HI2.out.1.frozen k
   have l3:=HI2.out.2.2.1.lt
   clear hW HI hcell DL HRB hiu hiv
   obtain⟨XX,hXX⟩ : ∃XX,XX=x+(a*(u:Int)+b*(v:Int)):=⟨_,rfl⟩
   obtain⟨YY,hYY⟩ : ∃YY,YY=y+(c*(u:Int)+d*(v:Int)):=⟨_,rfl⟩
   obtain⟨xn,hxn⟩ : ∃xn:Nat,XX % 4294967296=(xn:Int):=⟨(XX % 4294967296).toNat,by omega⟩
   obtain⟨yn,hyn⟩ : ∃yn:Nat,YY % 4294967296=(yn:Int):=⟨(YY % 4294967296).toNat,by omega⟩
   have bX1 : -9223372036854775808≤XX := j0i3
   have bX2:XX≤9223372036854775807 := j0i3
   have bY1 : -9223372036854775808≤YY := j0i3
   have bY2:YY≤9223372036854775807 := j0i3
   have hwx:IntKind.u32.wrap XX=(xn:Int):=by rw [IntKind.wrap_u32];exact hxn
   have hwy:IntKind.u32.wrap YY=(yn:Int):=by rw [IntKind.wrap_u32];exact hyn
   by_cases hkm:k<m
   ·have cb0 : ∀z,(w2.setCell ⟨ga,k,none⟩ z).cell? ⟨gb,k,none⟩=some (.int .u32 (Fb k:Nat)):=fun z=>(HI2.out.2.1.wr (Ne.symm hab) (Wr.set_ _ _ _ z)).cell (j:=k) j0i3
    have cb1 : ∀z,(w2.setCell ⟨ga,k,none⟩ z).frozen? ⟨gb,k,none⟩=false:=fun z=>(HI2.out.2.1.wr (Ne.symm hab) (Wr.set_ _ _ _ z)).frozen k
    have HS:=Lib.hid (HI2.out.stepB hab j0i3 j0i3 hBa hBb F1.out F2.out (by rw [← HU.out];exact b0) (by rw [← HV.out];exact b1) (by rw [← HU.out,← HV.out];exact hXX) hxn (by rw [← HU.out,← HV.out];exact hYY) hyn)
    have hXX':=hXX.symm
    have hYY':=hYY.symm
    clear hXX hYY hxn hyn
    go_wp2
    go_roundw
    case rel=>exact⟨k+1,_,_,_,_,_,by omega,rfl,rfl,by go_num,HS.out⟩
    case measure=>simp [intOf];omega
   ·have v0:v=0:=by rw [HV.out];unfold limbOf;rw [if_neg hkm]
    have HS:=Lib.hid (HI2.out.stepA hab j0i3 hBa j0i3 F1.out F2.out (by rw [← HU.out];exact b0) (by rw [← HV.out];exact b1) (by rw [← HU.out,← HV.out];exact hXX) hxn (by rw [← HU.out,← HV.out];exact hYY) hyn)
    have hXX':=hXX.symm
    have hYY':=hYY.symm
    clear hXX hYY hxn hyn v0
    go_wp2
    go_roundw
    case rel=>exact⟨k+1,_,_,_,_,_,by omega,rfl,rfl,by go_num,HS.out⟩
    case measure=>simp [intOf];omega
  ·obtain rfl:k=n:=by omega
   go_wp2
   go_end0
   exact HDN.out _ _ _ _ _ _ hinv
end Go.Proofs.YtgilnmhejjpleaaGreat
