/- Contracts of lin: Dot, AddTimes. -/
import Derived.Test.YtgilnmhejjpleaaGreatPMin
import Derived.Test.YtgilnmhejjpleaaGreatPYe
import Derived.Lib.SliceRun
namespace Go.Proofs.YtgilnmhejjpleaaGreat
open Go.RowKit
attribute [local go_sem ↓] Go.wp_at_zero Go.wp_at_succ
set_option linter.unusedVariables false
theorem jc22 {P:Prop}(h:P:=by first | exact hb | exact bundrew hb):P:=h
theorem jcv8 {P:Prop}(h:P:=by first | exact hna | exact hnb):P:=h
theorem jl68 {P:Prop}(h:P:=by rw [hWF]; exact ((((Kr_10.out.set_ 0 (.bool sb)).set_ 1 (.slice sA sn sc)).set_ 2 (.bool tb)).set_ 3 (.slice tA tn tc))):P:=h
theorem jlde {P:Prop}(h:P:=by first | exact (IsRat.limQ (k := K) HS11.out BS.out) | exact (IsRat.limQ (k := K) HS11.out.drew_ BS.out)):P:=h
theorem jqyj {P:Prop}(h:P:=by rw [hWF]; exact ((((s_10.out.one Kr_10.out (i := 0) (x := .bool false) (y := .bool sb) rfl nu).one (Kr_10.out.set_ 0 (.bool sb)) (i := 1) (x := .slice none 0 0) (y := .slice sA sn sc) rfl nu).one ((Kr_10.out.set_ 0 (.bool sb)).set_ 1 (.slice sA sn sc)) (i := 2) (x := .bool false) (y := .bool tb) rfl nu).one (((Kr_10.out.set_ 0 (.bool sb)).set_ 1 (.slice sA sn sc)).set_ 2 (.bool tb)) (i := 3) (x := .slice none 0 0) (y := .slice tA tn tc) rfl nu)):P:=h
theorem jy56 {P:Prop}(h:P:=by simp [results, Tryz.results40, go_sem, e00, e01, e02, e03] <;> omega):P:=h
theorem juup {P:Prop}(h:P:=by rw [hWF]; exact (bset (bset (bset (bset HB_10.out j0i3) j0i3) j0i3) j0i3)):P:=h
theorem cf_times(args:Array Value)(u:World):(callFunc 74 args).run Tryz.prog u = .ok (.enter 74 args) u:=by simp [go_sem]
section
variable {p:Bool} {k n:Nat} {w:World} {v:Value} {f:Nat→Rat}
theorem RowQ.alloc_(h:RowQ p k w v n f)(o:Obj):RowQ p k (w.alloc o) v n f:=h.below (below_new w o)
theorem RowQ.drew_(h:RowQ p k w v n f):RowQ p k w.drew v n f:=h
theorem RowT.alloc_(h:RowT p k w v n f)(o:Obj):RowT p k (w.alloc o) v n f:=h.below (below_new w o)
theorem EQ.alloc_ {q:Rat}(h:EQ p k w v q)(o:Obj):EQ p k (w.alloc o) v q:=h.below (below_new w o)
end
def dotF(f g:Nat→Rat):Nat→Rat
 | 0=>0
 |n+1=>dotF f g n+f n*g n
theorem dotF_congr {f g f' g':Nat→Rat} : ∀n,(∀i,i<n→f i=f' i)→(∀i,i<n→g i=g' i)→dotF f g n=dotF f' g' n
 | 0,_,_=>rfl
 |n+1,h,h'=>by
  show dotF f g n+f n*g n=dotF f' g' n+f' n*g' n
  rw [dotF_congr n (fun i hi=>h i j0i3) (fun i hi=>h' i j0i3),h n j0i3,h' n j0i3]
theorem dotF_bq {f g:Nat→Rat} {k l K:Nat} : ∀n,(∀i,i<n→BQ k (f i))→(∀i,i<n→BQ l (g i))→1+n*(k+l+1)≤K→BQ K (dotF f g n)
 | 0,_,_,h=>bq_zero j0i3
 |n+1,h1,h2,h=>by
  have e:(n+1)*(k+l+1)=n*(k+l+1)+(k+l+1):=by rw [Nat.add_mul,Nat.one_mul]
  exact BQ.add (dotF_bq n (fun i hi=>h1 i j0i3) (fun i hi=>h2 i j0i3) (Nat.le_refl _)) (BQ.mul (h1 n j0i3) (h2 n j0i3) (Nat.le_refl _)) j0i3
set_option maxRecDepth 100000 in
theorem pairs_no {A B:Option Addr} {n m c d:Nat} {vf:Value} {w:World}(hn:n≤1000000)(hm:m≤1000000)(h:n≠m) :
 Calls Tryz.prog 73 #[.slice A n c,.slice B m d,vf] w fun e w'=>e = .returned (.tuple #[.slice none 0 0,.bool false])∧w'=w:=by
 have h1 : ¬ ((n:Int)=(m:Int)) := j0i3
 go_enter Tryz.func73,Tryz.ntmps73
 go_wp2
 go_ret2
 exact⟨rfl,rfl⟩
def DtI(w2 wr:World)(S:RatD)(q:Rat):Prop:=Blk wr w2.heap.size 36 #[.bool S.b,.slice S.A S.n S.c,.bool S.b',.slice S.A' S.n' S.c']∧IsRat wr S.val q∧Below w2.heap.size w2 wr
set_option maxRecDepth 100000 in
set_option maxHeartbeats 4000000 in
theorem ldot {p p':Bool} {k l K n:Nat} {w:World} {va vb:Value} {f g:Nat→Rat}(ha:RowQ p k w va n f)(hb:RowQ p' l w vb n g)(hk:k≤10000)(hl:l≤10000)(h1:1≤k)(h2:1≤l)(hK : ∀i,i≤n→BQ K (dotF f g i))(hK1:1≤K)(hK2:K≤40000) :
 Calls Tryz.prog 40 #[va,vb] w fun e w' => ∃v,e = .returned (.tuple #[v,.bool true])∧IsRat w' v (dotF f g n)∧Below w.heap.size w w':=by
 have BP:=Lib.hid (fun i (hi:i<n)=>BQ.mul (ha.bq h1 hi) (hb.bq h2 hi) (Nat.le_refl (k+l)))
 have x_0:=Lib.hid ha
 have y_0:=Lib.hid hb
 have HK:=Lib.hid hK
 clear ha hb hK
 go_enter Tryz.func40,Tryz.ntmps40
 go_wp2_with fail
 refine Calls.mono (pairs_any (k:=k) (l:=l) (K:=k+l) (n:=n) (G:=fun x y=>x*y) (cap := #[]) (fn:=74) cf_times (fun w' v v' x y hb hx hy=>ltimes hx hy j0i3 j0i3 h1 h2) (x_0.out.alloc_ _) (y_0.out.alloc_ _) BP.out) ?_
 rintro e w1 ⟨v,rfl,h,hb⟩
 obtain⟨A1,c1,rfl,_,hn1⟩:=h.rowQ.len
 have HN:=Lib.hid hn1
 clear hn1
 have hB:=bun (hb)
 have Kr_1:=Lib.hid (show Blk w1 (w.heap.size) 36 #[.bool false,.slice none 0 0,.bool false,.slice none 0 0] from(Blk.new _ _ jupy _ _).below hb)
 have p_1:=Lib.hid (h.rowQ)
 have HB_1:=Lib.hid (hB)
 have hs_1:w.heap.size≤w1.heap.size:=HB_1.out.size
 have hz_1:w.heap.size+1≤w1.heap.size := jrv7
 clear hB hb x_0 y_0
 go_wp2_with fail
 refine Calls.mono (lzero _) ?_
 rintro e w2 ⟨v,rfl,h,hb⟩
 obtain⟨b2,A2,n2,c2,d2,B2,m2,k2,rfl,-,-,-,-,-⟩:=h.form
 have hB:=hb
 have p_2:=Lib.hid (p_1.out.below hB)
 have Kr_2:=Lib.hid (Kr_1.out.below hB)
 have s_2:=Lib.hid (h)
 have HB_2:=Lib.hid (below_trans HB_1.out hB)
 have hs_2:w.heap.size≤w2.heap.size:=HB_2.out.size
 have hz_2:w1.heap.size+0≤w2.heap.size := jrv7
 clear hB hb p_1 Kr_1 HB_1
 have HP2:=Lib.hid p_2.out
 have HBw:=Lib.hid HB_2.out
 have HR2:=Lib.hid Kr_2.out
 go_wp2
 have HN3':=below_new w2 (.cells #[.bool b2,.slice A2 n2 c2,.bool d2,.slice B2 m2 k2] 36)
 generalize hW:(w2.alloc (.cells #[.bool b2,.slice A2 n2 c2,.bool d2,.slice B2 m2 k2] 36))=w3
 have p_3:=Lib.hid (hW▸(p_2.out.alloc_ _))
 have s_3:=Lib.hid (hW▸(s_2.out.alloc_ _))
 have Kr_3:=Lib.hid (show Blk w3 (w.heap.size) 36 #[.bool false,.slice none 0 0,.bool false,.slice none 0 0] from by rw [← hW];exact(Kr_2.out.alloc_ _))
 have Ks_3:=Lib.hid (show Blk w3 (w2.heap.size) 36 #[.bool b2,.slice A2 n2 c2,.bool d2,.slice B2 m2 k2] from jc21)
 have HB_3:=Lib.hid (show Below w.heap.size w w3 from jkla)
 have hs_3:w.heap.size≤w3.heap.size:=HB_3.out.size
 have hz_3:w2.heap.size+1≤w3.heap.size := j59e
 have HN3:=Lib.hid (show Below w2.heap.size w2 w3 from hW▸HN3')
 clear HN3' hW p_2 s_2 Kr_2 HB_2
 have HI0:=Lib.hid (show DtI w2 w3 ⟨b2,A2,n2,c2,d2,B2,m2,k2⟩ 0 from⟨Ks_3.out,s_3.out,(by have:=HB_3;exact HN3.out)⟩)
 clear Ks_3 s_3 Kr_3 p_3 HB_3
 go_loopw [20] (fun v20 wr => ∃ (i:Nat) (S:RatD),v20 = .int .i64 (i:Nat)∧i≤n∧DtI w2 wr S (dotF f g i)) (fun v20 _=>n - (intOf v20).toNat)
 case atStart=>exact⟨0,_,rfl,Nat.zero_le _,HI0.out⟩
 case round =>
  clear HI0
  obtain⟨i,⟨sb,sA,sn,sc,tb,tA,tn,tc⟩,rfl,hi,hinv⟩:=hrel
  have HI:=Lib.hid hinv
  clear hinv
  by_cases hlt:i<n
  ·have hi0:(0:Int)≤(i:Int):=by omega
   have hik:(i:Int)<(n:Int) := j0i3
   obtain⟨ad,c1,⟨b,A1,n1,c2,b',A1',n1',c1'⟩,e1,_,_,⟨a0,a1,a2,a3,a4⟩,hE⟩:=(HP2.out.below HI.out.2.2).at_ hlt
   simp only [Value.slice.injEq] at e1
   obtain⟨rfl,_,rfl⟩:=e1
   have x_10:=Lib.hid hE.2
   have s_10:=Lib.hid HI.out.2.1
   have Ks_10:=Lib.hid HI.out.1
   have HB_10:=Lib.hid HI.out.2.2
   have BS:=Lib.hid (HK.out i hi)
   clear hE HI
   by_cases hz:f i*g i=0
   ·have HZ:=Lib.hid (decide_eq_true hz)
    have HE:=Lib.hid (show dotF f g (i+1)=dotF f g i by show dotF f g i+f i*g i=_;rw [hz,Rat.add_zero])
    clear hz
    have hz_10:w2.heap.size<wr.heap.size:=Ks_10.out.lt
    go_wp2_with fail
    refine Calls.mono (lisz_is HZ.out (x_10.out.alloc_ _) j0i3) ?_
    rintro e w11 ⟨rfl,hb⟩
    have hB:=bun (hb)
    have x_11:=Lib.hid (x_10.out.below hB)
    have s_11:=Lib.hid (s_10.out.below hB)
    have Ks_11:=Lib.hid (Ks_10.out.below hB)
    have Ke_11:=Lib.hid (show Blk w11 (wr.heap.size) 36 #[.bool b,.slice A1 n1 c2,.bool b',.slice A1' n1' c1'] from(Blk.new _ _ jupy _ _).below hb)
    have HB_11:=Lib.hid (below_trans HB_10.out hB)
    have hs_11:w2.heap.size≤w11.heap.size:=HB_11.out.size
    have hz_11:wr.heap.size+1≤w11.heap.size := jrv7
    clear hB hb x_10 s_10 Ks_10 HB_10
    obtain⟨p10,p11,p12,p13,l1⟩:=Ke_11.out.use4
    obtain⟨p20,p21,p22,p23,l2⟩:=Ks_11.out.use4
    have HINV:Hid (DtI w2 w11 ⟨sb,sA,sn,sc,tb,tA,tn,tc⟩ (dotF f g (i+1))):=⟨Ks_11.out,by rw [HE.out];exact s_11.out,HB_11.out⟩
    go_wp2
    go_roundw
    case rel=>exact⟨i+1,_,by go_num,by omega,HINV.out⟩
    case measure=>simp [intOf];omega
   ·have HZ:=Lib.hid (decide_eq_false hz)
    clear hz
    have hz_10:w2.heap.size<wr.heap.size:=Ks_10.out.lt
    go_wp2_with fail
    refine Calls.mono (lisz_is HZ.out (x_10.out.alloc_ _) j0i3) ?_
    rintro e w11 ⟨rfl,hb⟩
    have hB:=bun (hb)
    have x_11:=Lib.hid (x_10.out.below hB)
    have s_11:=Lib.hid (s_10.out.below hB)
    have Ks_11:=Lib.hid (Ks_10.out.below hB)
    have Ke_11:=Lib.hid (show Blk w11 (wr.heap.size) 36 #[.bool b,.slice A1 n1 c2,.bool b',.slice A1' n1' c1'] from(Blk.new _ _ jupy _ _).below hb)
    have HB_11:=Lib.hid (below_trans HB_10.out hB)
    have hs_11:w2.heap.size≤w11.heap.size:=HB_11.out.size
    have hz_11:wr.heap.size+1≤w11.heap.size := jrv7
    clear hB hb x_10 s_10 Ks_10 HB_10
    obtain⟨p10,p11,p12,p13,l1⟩:=Ke_11.out.use4
    obtain⟨p20,p21,p22,p23,l2⟩:=Ks_11.out.use4
    go_wp2_with fail
    refine Calls.mono (q_add (IsRat.limQ (k:=K) s_11.out BS.out) x_11.out j0i3 j0i3 j0i3 j0i3) ?_
    rintro e w12 ⟨v,rfl,h,hb⟩
    obtain⟨b12,A12,n12,c12,d12,B12,m12,k12,rfl,-,-,-,-,-⟩:=h.form
    have hB:=hb
    have Ks_12:=Lib.hid (Ks_11.out.below hB)
    have Ke_12:=Lib.hid (Ke_11.out.below hB)
    have t_12:=Lib.hid (h)
    have HB_12:=Lib.hid (below_trans HB_11.out hB)
    have hs_12:w2.heap.size≤w12.heap.size:=HB_12.out.size
    have hz_12:w11.heap.size+0≤w12.heap.size := jrv7
    clear hB hb x_11 s_11 Ks_11 Ke_11 HB_11 p10 p11 p12 p13 l1 p20 p21 p22 p23 l2
    obtain⟨p30,p31,p32,p33,l3⟩:=Ks_12.out.use4
    obtain⟨r30,r31,r32,r33⟩:=Ks_12.out.into4
    go_wp2
    generalize hW:((((w12.setCell ⟨w2.heap.size,0,none⟩ (.bool b12)).setCell ⟨w2.heap.size,1,none⟩ (.slice A12 n12 c12)).setCell ⟨w2.heap.size,2,none⟩ (.bool d12)).setCell ⟨w2.heap.size,3,none⟩ (.slice B12 m12 k12))=w13
    have t_13:=Lib.hid (by have h:=((((t_12.out.one Ks_12.out (i:=0) (x := .bool sb) (y := .bool b12) rfl nu).one (Ks_12.out.set_ 0 (.bool b12)) (i:=1) (x := .slice sA sn sc) (y := .slice A12 n12 c12) rfl nu).one ((Ks_12.out.set_ 0 (.bool b12)).set_ 1 (.slice A12 n12 c12)) (i:=2) (x := .bool tb) (y := .bool d12) rfl nu).one (((Ks_12.out.set_ 0 (.bool b12)).set_ 1 (.slice A12 n12 c12)).set_ 2 (.bool d12)) (i:=3) (x := .slice tA tn tc) (y := .slice B12 m12 k12) rfl nu);rw [hW] at h;exact h)
    have Ks_13:=Lib.hid (show Blk w13 (w2.heap.size) 36 #[.bool b12,.slice A12 n12 c12,.bool d12,.slice B12 m12 k12] from by rw [← hW];exact((((Ks_12.out.set_ 0 (.bool b12)).set_ 1 (.slice A12 n12 c12)).set_ 2 (.bool d12)).set_ 3 (.slice B12 m12 k12)))
    have Ke_13:=Lib.hid (show Blk w13 (wr.heap.size) 36 #[.bool b,.slice A1 n1 c2,.bool b',.slice A1' n1' c1'] from by rw [← hW];exact((((Ke_12.out.other j0i3 0 (.bool b12)).other j0i3 1 (.slice A12 n12 c12)).other j0i3 2 (.bool d12)).other j0i3 3 (.slice B12 m12 k12)))
    have HB_13:=Lib.hid (show Below w2.heap.size w2 w13 from by rw [← hW];exact(bset (bset (bset (bset HB_12.out j0i3) j0i3) j0i3) j0i3))
    have hs_13:w2.heap.size≤w13.heap.size:=HB_13.out.size
    have hz_13:w12.heap.size≤w13.heap.size := jfej
    have hq_13:=Lib.hid (show w13.heap.size=w12.heap.size from jfej)
    clear hW t_12 Ks_12 Ke_12 HB_12 p30 p31 p32 p33 l3 r30 r31 r32 r33
    have HINV:Hid (DtI w2 w13 ⟨b12,A12,n12,c12,d12,B12,m12,k12⟩ (dotF f g (i+1))):=⟨Ks_13.out,t_13.out,HB_13.out⟩
    go_roundw
    case rel=>exact⟨i+1,_,by go_num,by omega,HINV.out⟩
    case measure=>simp [intOf];omega
  ·obtain rfl:i=n:=by omega
   have s_10:=Lib.hid HI.out.2.1
   have Ks_10:=Lib.hid HI.out.1
   have HB_10:=Lib.hid (HBw.out.trans (HI.out.2.2.mono j0i3))
   have Kr_10:=Lib.hid (HR2.out.below HI.out.2.2)
   have hne:w.heap.size≠w2.heap.size := j0i3
   clear HI
   obtain⟨p10,p11,p12,p13,l1⟩:=Ks_10.out.use4
   obtain⟨p20,p21,p22,p23,l2⟩:=Kr_10.out.use4
   obtain⟨r20,r21,r22,r23⟩:=Kr_10.out.into4
   go_wp2
   obtain⟨WF,hWF⟩ : ∃W,W=((((wr.setCell ⟨w.heap.size,0,none⟩ (.bool sb)).setCell ⟨w.heap.size,1,none⟩ (.slice sA sn sc)).setCell ⟨w.heap.size,2,none⟩ (.bool tb)).setCell ⟨w.heap.size,3,none⟩ (.slice tA tn tc)):=⟨_,rfl⟩
   rw [← hWF]
   have kq0:Blk WF (w.heap.size) 36 #[.bool sb,.slice sA sn sc,.bool tb,.slice tA tn tc] := jl68
   obtain⟨e00,e01,e02,e03⟩:=kq0.cells4
   have hBF:Below w.heap.size w WF := juup
   have fq:IsRat WF (.agg #[.bool sb,.slice sA sn sc,.bool tb,.slice tA tn tc]) (dotF f g i) := jqyj
   have HE:Hid (∃v,(Ending.returned (.tuple #[.agg #[.bool sb,.slice sA sn sc,.bool tb,.slice tA tn tc],.bool true])) = .returned (.tuple #[v,.bool true])∧IsRat WF v (dotF f g i)∧Below w.heap.size w WF):=⟨_,rfl,fq,hBF⟩
   clear hWF
   exact bodyPost_ret (v := .tuple #[.agg #[.bool sb,.slice sA sn sc,.bool tb,.slice tA tn tc],.bool true]) jy56 rfl HE.out
end Go.Proofs.YtgilnmhejjpleaaGreat
namespace Go.Proofs.YtgilnmhejjpleaaGreat
open Go.RowKit
attribute [local go_sem ↓] Go.wp_at_zero Go.wp_at_succ
set_option linter.unusedVariables false
set_option maxRecDepth 100000 in
set_option maxHeartbeats 2000000 in
theorem lrect {p:Bool} {k m:Nat} {w:World} {v:Value} {Ln:Nat→Nat} {F:Nat→Nat→Rat} {N:Int}(h:TabQ p k w v m Ln F) :
 Calls Tryz.prog 48 #[v,.int .i64 N] w fun e w'=>(∃b,e = .returned (.bool b)∧(b=true↔∀i,i<m→(Ln i:Int)=N))∧w'=w:=by
 obtain⟨A,c,rfl,hc,hm⟩:=h.len
 have H:=Lib.hid h
 clear h
 go_enter Tryz.func48,Tryz.ntmps48
 go_wp2
 go_loopw [9] (fun v9 wr => ∃ (i:Nat),v9 = .int .i64 (i:Nat)∧i≤m∧wr=w∧∀j,j<i→(Ln j:Int)=N) (fun v9 _=>m - (intOf v9).toNat)
 case atStart=>exact⟨0,rfl,Nat.zero_le _,rfl,fun j hj=>absurd hj j0i3⟩
 case round =>
  obtain⟨i,rfl,hi,rfl,hinv⟩:=hrel
  have HI:=Lib.hid hinv
  clear hinv
  by_cases hlt:i<m
  ·have hi0:(0:Int)≤(i:Int):=by omega
   have hik:(i:Int)<(m:Int) := j0i3
   obtain⟨ad,c1,A',c',e1,_,hb,hcell,hl1,hl2,hr⟩:=H.out.at_ hlt
   simp only [Value.slice.injEq] at e1
   obtain⟨rfl,_,rfl⟩:=e1
   generalize hLi:Ln i=li at *
   have HL:=Lib.hid hLi
   clear hr hLi
   by_cases hN:(li:Int)=N
   ·go_wp2
    go_roundw
    case rel=>exact⟨i+1,by go_num,by omega,by first | rfl | trivial,fun j hj=>by
     by_cases hji:j=i
     ·subst hji;rw [HL.out];exact hN
     ·exact HI.out j j0i3⟩
    case measure=>simp [intOf];omega
   ·go_wp2
    go_ret
    exact⟨⟨_,rfl,fun h => j40t,fun h=>absurd (HL.out▸h i hlt) hN⟩,by first | rfl | trivial⟩
  ·obtain rfl:i=m:=by omega
   go_wp2
   go_ret
   exact⟨⟨_,rfl,fun _=>HI.out,fun _=>rfl⟩,by first | rfl | trivial⟩
end Go.Proofs.YtgilnmhejjpleaaGreat
namespace Go.Proofs.YtgilnmhejjpleaaGreat
open Go.RowKit
attribute [local go_sem ↓] Go.wp_at_zero Go.wp_at_succ
set_option linter.unusedVariables false
theorem rowAt_one(w:World)(g:Nat)(hg:g=w.heap.size)(x:RatD):RowAt (w.alloc (.cells #[.bool x.b,.slice x.A x.n x.c,.bool x.b',.slice x.A' x.n' x.c'] 36)) (some ⟨g,0,none⟩) 1 (fun _=>x):=fun i hi=>by
 obtain rfl:i=0 := j0i3
 have h:=Blk.new w g hg 36 #[.bool x.b,.slice x.A x.n x.c,.bool x.b',.slice x.A' x.n' x.c']
 exact⟨_,rfl,h.lt,h.cell 0,h.cell 1,h.cell 2,h.cell 3⟩
section
variable {P:Program} {w:World} {ops:Array Oper} {o:Oper} {a:Act} {K:Act→World→Prop} {Q:Exit→Act→World→Prop} {E:Prop}
theorem step_append_rats(hP:P=Tryz.prog)(hgd:o.guard=none)(s x:Operand)(ho:o.op = .call { callee := .builtin .append,args := #[s,x],argTypes := #[22,22] })
 {base n m c:Nat} {v:Value} {X Y:Nat→RatD} {A:Option Addr} (hs:a.eval s=v) (hown:OwnR w base v n X) (hx:a.eval x = .slice A m c) (hY:RowAt w A m Y) (hA:A=none→m=0∧c=0) (hnm:n+m≤1000000) (hbase:base≤w.heap.size)
 (h : ∀v' w',OwnR w' base v' (n+m) (appR X n Y)→Fz base 36 w w'→K (a.put o.dst v') w'):if Region.wanted o (yielded ops a.tmps)=true then Oper.wp P o a w K Q else E:=by
 subst hP
 have hw:Region.wanted o (yielded ops a.tmps)=true:=by simp [Region.wanted,hgd]
 rw [if_pos hw]
 obtain⟨v',w',h1,h2,h3⟩:=run_append_rats (w:=w) o.type hown hY hA hnm hbase
 exact Go.Lib.wp_append_run w s x _ _ ho v _ hs hx v' w' h1 (h v' w' h2 h3)
end
end Go.Proofs.YtgilnmhejjpleaaGreat
namespace Go.Proofs.YtgilnmhejjpleaaGreat
open Go.RowKit
attribute [local go_sem ↓] Go.wp_at_zero Go.wp_at_succ
set_option linter.unusedVariables false
set_option maxRecDepth 100000 in
set_option maxHeartbeats 4000000 in
theorem rdot {p p':Bool} {k l K n:Nat} {w:World} {va vb:Value} {f g:Nat→Rat}(ha:RowQ p k w va n f)(hb:RowQ p' l w vb n g)(hk:k≤10000)(hl:l≤10000)(h1:1≤k)(h2:1≤l)(hK : ∀i,i≤n→BQ K (dotF f g i))(hK1:1≤K)(hK2:K≤20000) :
 Calls Tryz.prog 30 #[va,vb] w fun e w' => ∃v,e = .returned (.tuple #[v,.bool true])∧IsRat w' v (dotF f g n)∧Below w.heap.size w w':=by
 have BP:=Lib.hid (fun i (hi:i<n)=>BQ.mul (ha.bq h1 hi) (hb.bq h2 hi) (Nat.le_refl (k+l)))
 obtain⟨A,ca,rfl,_,hn⟩:=ha.len
 obtain⟨B,cb,rfl,_,_⟩:=hb.len
 have x_0:=Lib.hid ha
 have y_0:=Lib.hid hb
 have HK:=Lib.hid hK
 clear ha hb hK
 go_enter Tryz.func30,Tryz.ntmps30
 go_wp2_with fail
 refine Calls.mono (rzero_any _) ?_
 rintro e w1 ⟨v,rfl,h,hb⟩
 obtain⟨b1,A1,n1,c1,d1,B1,m1,k1,rfl,-,-,-,-,-⟩:=h.form
 have hB:=bun (hb)
 have x_1:=Lib.hid (x_0.out.below hB)
 have y_1:=Lib.hid (y_0.out.below hB)
 have Kr_1:=Lib.hid (show Blk w1 (w.heap.size) 36 #[.bool false,.slice none 0 0,.bool false,.slice none 0 0] from(Blk.new _ _ jupy _ _).below hb)
 have s_1:=Lib.hid (h)
 have HB_1:=Lib.hid (hB)
 have hs_1:w.heap.size≤w1.heap.size:=HB_1.out.size
 have hz_1:w.heap.size+1≤w1.heap.size := jrv7
 clear hB hb x_0 y_0
 have HX1:=Lib.hid x_1.out
 have HY1:=Lib.hid y_1.out
 have HBw:=Lib.hid HB_1.out
 have HR1:=Lib.hid Kr_1.out
 go_wp2
 have HN2':=below_new w1 (.cells #[.bool b1,.slice A1 n1 c1,.bool d1,.slice B1 m1 k1] 36)
 generalize hW:(w1.alloc (.cells #[.bool b1,.slice A1 n1 c1,.bool d1,.slice B1 m1 k1] 36))=w2
 have x_2:=Lib.hid (hW▸(x_1.out.alloc_ _))
 have y_2:=Lib.hid (hW▸(y_1.out.alloc_ _))
 have s_2:=Lib.hid (hW▸(s_1.out.alloc_ _))
 have Kr_2:=Lib.hid (show Blk w2 (w.heap.size) 36 #[.bool false,.slice none 0 0,.bool false,.slice none 0 0] from by rw [← hW];exact(Kr_1.out.alloc_ _))
 have Ks_2:=Lib.hid (show Blk w2 (w1.heap.size) 36 #[.bool b1,.slice A1 n1 c1,.bool d1,.slice B1 m1 k1] from jc21)
 have HB_2:=Lib.hid (show Below w.heap.size w w2 from by rw [← hW];exact halloc (HB_1.out))
 have hs_2:w.heap.size≤w2.heap.size:=HB_2.out.size
 have hz_2:w1.heap.size+1≤w2.heap.size := j59e
 have HN2:=Lib.hid (show Below w1.heap.size w1 w2 from hW▸HN2')
 clear HN2' hW x_1 y_1 s_1 Kr_1 HB_1
 have HI0:=Lib.hid (show DtI w1 w2 ⟨b1,A1,n1,c1,d1,B1,m1,k1⟩ 0 from⟨Ks_2.out,s_2.out,HN2.out⟩)
 clear Ks_2 s_2 Kr_2 x_2 y_2 HB_2
 go_loopw [7] (fun v7 wr => ∃ (i:Nat) (S:RatD),v7 = .int .i64 (i:Nat)∧i≤n∧DtI w1 wr S (dotF f g i)) (fun v7 _=>n - (intOf v7).toNat)
 case atStart=>exact⟨0,_,rfl,Nat.zero_le _,HI0.out⟩
 case round =>
  clear HI0
  obtain⟨i,⟨sb,sA,sn,sc,tb,tA,tn,tc⟩,rfl,hi,hinv⟩:=hrel
  have HI:=Lib.hid hinv
  clear hinv
  by_cases hlt:i<n
  ·have hi0:(0:Int)≤(i:Int):=by omega
   have hik:(i:Int)<(n:Int) := j0i3
   obtain⟨ad,c1',⟨b5,A5,n5,c5,d5,B5,m5,k5⟩,e1,_,_,hata,hEa⟩:=HX1.out.at_ hlt
   simp only [Value.slice.injEq] at e1
   obtain⟨rfl,_,rfl⟩:=e1
   obtain⟨bd,c2',⟨b6,A6,n6,c6,d6,B6,m6,k6⟩,e1,_,_,hatb,hEb⟩:=HY1.out.at_ hlt
   simp only [Value.slice.injEq] at e1
   obtain⟨rfl,_,rfl⟩:=e1
   have hna:w1.heap.size≠(ad.add (i*4)).block:=by have:=hata.1;omega
   have hnb:w1.heap.size≠(bd.add (i*4)).block:=by have:=hatb.1;omega
   obtain⟨x0,x1,x2,x3,x4⟩:=hata.below HI.out.2.2
   obtain⟨y0,y1,y2,y3,y4⟩:=hatb.below HI.out.2.2
   have HEA:=Lib.hid (hEa.2.below HI.out.2.2)
   have HEB:=Lib.hid (hEb.2.below HI.out.2.2)
   have HS:=Lib.hid HI.out.2.1
   have KS:=Lib.hid HI.out.1
   have HB':=Lib.hid HI.out.2.2
   have BS:=Lib.hid (HK.out i hi)
   obtain⟨p0,p1,p2,p3,pl⟩:=KS.out.use4
   clear hata hatb hEa hEb HI
   go_wp2
   refine wp_region_held_drew (S:=(fun w'=>w'.cell? (ad.add (i*4))=some (.bool b5)∧w'.cell? ⟨(ad.add (i*4)).block,(ad.add (i*4)).off+1,none⟩=some (.slice A5 n5 c5)∧w'.cell? ⟨(ad.add (i*4)).block,(ad.add (i*4)).off+2,none⟩=some (.bool d5)∧w'.cell? ⟨(ad.add (i*4)).block,(ad.add (i*4)).off+3,none⟩=some (.slice B5 m5 k5)∧w'.cell? (bd.add (i*4))=some (.bool b6)∧w'.cell? ⟨(bd.add (i*4)).block,(bd.add (i*4)).off+1,none⟩=some (.slice A6 n6 c6)∧w'.cell? ⟨(bd.add (i*4)).block,(bd.add (i*4)).off+2,none⟩=some (.bool d6)∧w'.cell? ⟨(bd.add (i*4)).block,(bd.add (i*4)).off+3,none⟩=some (.slice B6 m6 k6))) jo0f ?_ (fun hHeld=>?_)
   ·(first | (refine⟨?_,?_,?_,?_,?_,?_,?_,?_⟩ <;> (first | with_reducible assumption | ((with_reducible refine Eq.trans (cell_drew _ _) ?_);with_reducible assumption) | ((repeat rw [World.cell?_setCell_far _ _ _ _ jcv8]);with_reducible assumption) | go_keep)) | go_keep)
   refine jtk 1 ?_
   refine jtk 2 ?_
   refine jtk 3 ?_
   refine jtk 4 ?_
   refine jtk 5 ?_
   refine jtk 6 ?_
   refine jtk 7 ?_
   refine jtk 8 ?_
   refine wpAnyH_ready (rs := [0,9]) jo0f jupy ?_
   refine AllReadyH.cons rfl (fun KQ hKQ=>?_) (AllReadyH.cons rfl (fun KQ hKQ=>?_) AllReadyH.nil)
   ·go_simp
    refine hKQ.out _ _ ?_ (fun hHeld=>?_)
    ·(try dsimp only);(first | (refine⟨?_,?_,?_,?_,?_,?_,?_,?_⟩ <;> (first | with_reducible assumption | ((with_reducible refine Eq.trans (cell_drew _ _) ?_);with_reducible assumption) | ((repeat rw [World.cell?_setCell_far _ _ _ _ jcv8]);with_reducible assumption) | go_keep)) | go_keep)
    clear hKQ KQ
    (try simp only [Act.put,List.setIfInBounds_toArray,List.set_cons_zero,List.set_cons_succ,List.getElem_toArray,List.getElem_cons_succ,List.getElem_cons_zero])
    refine wpAnyH_ready (rs := [9]) jo0f jupy ?_
    refine AllReadyH.cons rfl (fun KQ hKQ=>?_) AllReadyH.nil
    go_simp
    ((with_reducible refine Calls.mono (rmul_q HEA.out.drew_ HEB.out.drew_ j0i3 j0i3 h1 h2) ?_));rintro e w11 ⟨v,rfl,h,hb⟩;obtain⟨b5',A5',n5',c5',d5',B5',m5',k5',rfl,-,-,-,-,-⟩:=h.form;have hBw:=(show Below wr.heap.size wr w11 from jc22);have x011:=Nat.lt_of_lt_of_le x0 hBw.size;have y011:=Nat.lt_of_lt_of_le y0 hBw.size;have x111:=(hBw.cell (p:=(ad.add (i*4))) x0).trans x1;have x211:=(hBw.cell (p:=⟨(ad.add (i*4)).block,(ad.add (i*4)).off+1,none⟩) x0).trans x2;have x311:=(hBw.cell (p:=⟨(ad.add (i*4)).block,(ad.add (i*4)).off+2,none⟩) x0).trans x3;have x411:=(hBw.cell (p:=⟨(ad.add (i*4)).block,(ad.add (i*4)).off+3,none⟩) x0).trans x4;have y111:=(hBw.cell (p:=(bd.add (i*4))) y0).trans y1;have y211:=(hBw.cell (p:=⟨(bd.add (i*4)).block,(bd.add (i*4)).off+1,none⟩) y0).trans y2;have y311:=(hBw.cell (p:=⟨(bd.add (i*4)).block,(bd.add (i*4)).off+2,none⟩) y0).trans y3;have y411:=(hBw.cell (p:=⟨(bd.add (i*4)).block,(bd.add (i*4)).off+3,none⟩) y0).trans y4;have KS11:=Lib.hid (KS.out.below hBw);have HB11:=Lib.hid (below_trans HB'.out hBw);have HS11:=Lib.hid (HS.out.below hBw);obtain⟨q0,q1,q2,q3,ql⟩:=KS11.out.use4;have HM11:=Lib.hid (h.limQ (BP.out i hlt));clear hBw h hb KS HB' HS HEA HEB x1 x2 x3 x4 y1 y2 y3 y4 p0 p1 p2 p3 pl
    refine hKQ.out _ _ ?_ (fun hHeld=>?_)
    ·(try dsimp only);(first | (refine⟨?_,?_,?_,?_,?_,?_,?_,?_⟩ <;> (first | with_reducible assumption | ((with_reducible refine Eq.trans (cell_drew _ _) ?_);with_reducible assumption) | ((repeat rw [World.cell?_setCell_far _ _ _ _ jcv8]);with_reducible assumption) | go_keep)) | go_keep)
    clear hKQ KQ
    (try simp only [Act.put,List.setIfInBounds_toArray,List.set_cons_zero,List.set_cons_succ,List.getElem_toArray,List.getElem_cons_succ,List.getElem_cons_zero])
    refine wpAnyH_ready (rs := [10]) jo0f jupy ?_
    refine AllReadyH.cons rfl (fun KQ hKQ=>?_) AllReadyH.nil
    go_simp
    ((with_reducible refine Calls.mono (radd_q jlde (by first | exact HM11.out | exact HM11.out.drew_) j0i3 j0i3 j0i3 j0i3) ?_));rintro e w12 ⟨v,rfl,h,hb⟩;obtain⟨b12,A12,n12,c12,d12,B12,m12,k12,rfl,-,-,-,-,-⟩:=h.form;have hBw:=(show Below w11.heap.size w11 w12 from jc22);have x012:=Nat.lt_of_lt_of_le x011 hBw.size;have y012:=Nat.lt_of_lt_of_le y011 hBw.size;have x112:=(hBw.cell (p:=(ad.add (i*4))) x011).trans x111;have x212:=(hBw.cell (p:=⟨(ad.add (i*4)).block,(ad.add (i*4)).off+1,none⟩) x011).trans x211;have x312:=(hBw.cell (p:=⟨(ad.add (i*4)).block,(ad.add (i*4)).off+2,none⟩) x011).trans x311;have x412:=(hBw.cell (p:=⟨(ad.add (i*4)).block,(ad.add (i*4)).off+3,none⟩) x011).trans x411;have y112:=(hBw.cell (p:=(bd.add (i*4))) y011).trans y111;have y212:=(hBw.cell (p:=⟨(bd.add (i*4)).block,(bd.add (i*4)).off+1,none⟩) y011).trans y211;have y312:=(hBw.cell (p:=⟨(bd.add (i*4)).block,(bd.add (i*4)).off+2,none⟩) y011).trans y311;have y412:=(hBw.cell (p:=⟨(bd.add (i*4)).block,(bd.add (i*4)).off+3,none⟩) y011).trans y411;have KS12:=Lib.hid (KS11.out.below hBw);have HB12:=Lib.hid (below_trans HB11.out hBw);have HS12:=Lib.hid (HS11.out.below hBw);obtain⟨z0,z1,z2,z3,zl⟩:=KS12.out.use4;obtain⟨r0,r1,r2,r3⟩:=KS12.out.into4;have HT12:=Lib.hid h;clear hBw h hb KS11 HB11 HS11 HS12 HM11 x111 x211 x311 x411 y111 y211 y311 y411 q0 q1 q2 q3 ql
    refine hKQ.out _ _ ?_ (fun hHeld=>?_)
    ·(try dsimp only);(first | (refine⟨?_,?_,?_,?_,?_,?_,?_,?_⟩ <;> (first | with_reducible assumption | ((with_reducible refine Eq.trans (cell_drew _ _) ?_);with_reducible assumption) | ((repeat rw [World.cell?_setCell_far _ _ _ _ jcv8]);with_reducible assumption) | go_keep)) | go_keep)
    clear hKQ KQ
    (try simp only [Act.put,List.setIfInBounds_toArray,List.set_cons_zero,List.set_cons_succ,List.getElem_toArray,List.getElem_cons_succ,List.getElem_cons_zero])
    refine wpAnyH_ready (rs := [11]) jo0f jupy ?_
    refine AllReadyH.cons rfl (fun KQ hKQ=>?_) AllReadyH.nil
    go_simp
    refine hKQ.out _ _ ?_ (fun hHeld=>?_)
    ·(try dsimp only);(first | (refine⟨?_,?_,?_,?_,?_,?_,?_,?_⟩ <;> (first | with_reducible assumption | ((with_reducible refine Eq.trans (cell_drew _ _) ?_);with_reducible assumption) | ((repeat rw [World.cell?_setCell_far _ _ _ _ jcv8]);with_reducible assumption) | go_keep)) | go_keep)
    clear hKQ KQ
    (try simp only [Act.put,List.setIfInBounds_toArray,List.set_cons_zero,List.set_cons_succ,List.getElem_toArray,List.getElem_cons_succ,List.getElem_cons_zero])
    refine wpAnyH_done jo0f ?_ _
    obtain⟨W,hW⟩ : ∃W,W=((((w12.setCell ⟨w1.heap.size,0,none⟩ (.bool b12)).setCell ⟨w1.heap.size,1,none⟩ (.slice A12 n12 c12)).setCell ⟨w1.heap.size,2,none⟩ (.bool d12)).setCell ⟨w1.heap.size,3,none⟩ (.slice B12 m12 k12)):=⟨_,rfl⟩
    rw [← hW]
    have HINV:Hid (DtI w1 W ⟨b12,A12,n12,c12,d12,B12,m12,k12⟩ (dotF f g (i+1))):=⟨by rw [hW];exact KS12.out.own4,by rw [hW];exact HT12.out.other4 KS12.out nu nu nu nu,by rw [hW];exact Below.set4 HB12.out (Nat.le_refl _)⟩
    clear hW KS12 HT12 HB12 r0 r1 r2 r3 z0 z1 z2 z3 zl
    go_wp2
    go_roundw
    case rel=>exact⟨i+1,_,by go_num,by omega,HINV.out⟩
    case measure=>simp [intOf];omega
   ·go_simp
    ((with_reducible refine Calls.mono (rmul_q HEA.out.drew_ HEB.out.drew_ j0i3 j0i3 h1 h2) ?_));rintro e w11 ⟨v,rfl,h,hb⟩;obtain⟨b5',A5',n5',c5',d5',B5',m5',k5',rfl,-,-,-,-,-⟩:=h.form;have hBw:=(show Below wr.heap.size wr w11 from jc22);have x011:=Nat.lt_of_lt_of_le x0 hBw.size;have y011:=Nat.lt_of_lt_of_le y0 hBw.size;have x111:=(hBw.cell (p:=(ad.add (i*4))) x0).trans x1;have x211:=(hBw.cell (p:=⟨(ad.add (i*4)).block,(ad.add (i*4)).off+1,none⟩) x0).trans x2;have x311:=(hBw.cell (p:=⟨(ad.add (i*4)).block,(ad.add (i*4)).off+2,none⟩) x0).trans x3;have x411:=(hBw.cell (p:=⟨(ad.add (i*4)).block,(ad.add (i*4)).off+3,none⟩) x0).trans x4;have y111:=(hBw.cell (p:=(bd.add (i*4))) y0).trans y1;have y211:=(hBw.cell (p:=⟨(bd.add (i*4)).block,(bd.add (i*4)).off+1,none⟩) y0).trans y2;have y311:=(hBw.cell (p:=⟨(bd.add (i*4)).block,(bd.add (i*4)).off+2,none⟩) y0).trans y3;have y411:=(hBw.cell (p:=⟨(bd.add (i*4)).block,(bd.add (i*4)).off+3,none⟩) y0).trans y4;have KS11:=Lib.hid (KS.out.below hBw);have HB11:=Lib.hid (below_trans HB'.out hBw);have HS11:=Lib.hid (HS.out.below hBw);obtain⟨q0,q1,q2,q3,ql⟩:=KS11.out.use4;have HM11:=Lib.hid (h.limQ (BP.out i hlt));clear hBw h hb KS HB' HS HEA HEB x1 x2 x3 x4 y1 y2 y3 y4 p0 p1 p2 p3 pl
    refine hKQ.out _ _ ?_ (fun hHeld=>?_)
    ·(try dsimp only);(first | (refine⟨?_,?_,?_,?_,?_,?_,?_,?_⟩ <;> (first | with_reducible assumption | ((with_reducible refine Eq.trans (cell_drew _ _) ?_);with_reducible assumption) | ((repeat rw [World.cell?_setCell_far _ _ _ _ jcv8]);with_reducible assumption) | go_keep)) | go_keep)
    clear hKQ KQ
    (try simp only [Act.put,List.setIfInBounds_toArray,List.set_cons_zero,List.set_cons_succ,List.getElem_toArray,List.getElem_cons_succ,List.getElem_cons_zero])
    refine wpAnyH_ready (rs := [0]) jo0f jupy ?_
    refine AllReadyH.cons rfl (fun KQ hKQ=>?_) AllReadyH.nil
    go_simp
    refine hKQ.out _ _ ?_ (fun hHeld=>?_)
    ·(try dsimp only);(first | (refine⟨?_,?_,?_,?_,?_,?_,?_,?_⟩ <;> (first | with_reducible assumption | ((with_reducible refine Eq.trans (cell_drew _ _) ?_);with_reducible assumption) | ((repeat rw [World.cell?_setCell_far _ _ _ _ jcv8]);with_reducible assumption) | go_keep)) | go_keep)
    clear hKQ KQ
    (try simp only [Act.put,List.setIfInBounds_toArray,List.set_cons_zero,List.set_cons_succ,List.getElem_toArray,List.getElem_cons_succ,List.getElem_cons_zero])
    refine wpAnyH_ready (rs := [10]) jo0f jupy ?_
    refine AllReadyH.cons rfl (fun KQ hKQ=>?_) AllReadyH.nil
    go_simp
    ((with_reducible refine Calls.mono (radd_q jlde (by first | exact HM11.out | exact HM11.out.drew_) j0i3 j0i3 j0i3 j0i3) ?_));rintro e w12 ⟨v,rfl,h,hb⟩;obtain⟨b12,A12,n12,c12,d12,B12,m12,k12,rfl,-,-,-,-,-⟩:=h.form;have hBw:=(show Below w11.heap.size w11 w12 from jc22);have x012:=Nat.lt_of_lt_of_le x011 hBw.size;have y012:=Nat.lt_of_lt_of_le y011 hBw.size;have x112:=(hBw.cell (p:=(ad.add (i*4))) x011).trans x111;have x212:=(hBw.cell (p:=⟨(ad.add (i*4)).block,(ad.add (i*4)).off+1,none⟩) x011).trans x211;have x312:=(hBw.cell (p:=⟨(ad.add (i*4)).block,(ad.add (i*4)).off+2,none⟩) x011).trans x311;have x412:=(hBw.cell (p:=⟨(ad.add (i*4)).block,(ad.add (i*4)).off+3,none⟩) x011).trans x411;have y112:=(hBw.cell (p:=(bd.add (i*4))) y011).trans y111;have y212:=(hBw.cell (p:=⟨(bd.add (i*4)).block,(bd.add (i*4)).off+1,none⟩) y011).trans y211;have y312:=(hBw.cell (p:=⟨(bd.add (i*4)).block,(bd.add (i*4)).off+2,none⟩) y011).trans y311;have y412:=(hBw.cell (p:=⟨(bd.add (i*4)).block,(bd.add (i*4)).off+3,none⟩) y011).trans y411;have KS12:=Lib.hid (KS11.out.below hBw);have HB12:=Lib.hid (below_trans HB11.out hBw);have HS12:=Lib.hid (HS11.out.below hBw);obtain⟨z0,z1,z2,z3,zl⟩:=KS12.out.use4;obtain⟨r0,r1,r2,r3⟩:=KS12.out.into4;have HT12:=Lib.hid h;clear hBw h hb KS11 HB11 HS11 HS12 HM11 x111 x211 x311 x411 y111 y211 y311 y411 q0 q1 q2 q3 ql
    refine hKQ.out _ _ ?_ (fun hHeld=>?_)
    ·(try dsimp only);(first | (refine⟨?_,?_,?_,?_,?_,?_,?_,?_⟩ <;> (first | with_reducible assumption | ((with_reducible refine Eq.trans (cell_drew _ _) ?_);with_reducible assumption) | ((repeat rw [World.cell?_setCell_far _ _ _ _ jcv8]);with_reducible assumption) | go_keep)) | go_keep)
    clear hKQ KQ
    (try simp only [Act.put,List.setIfInBounds_toArray,List.set_cons_zero,List.set_cons_succ,List.getElem_toArray,List.getElem_cons_succ,List.getElem_cons_zero])
    refine wpAnyH_ready (rs := [11]) jo0f jupy ?_
    refine AllReadyH.cons rfl (fun KQ hKQ=>?_) AllReadyH.nil
    go_simp
    refine hKQ.out _ _ ?_ (fun hHeld=>?_)
    ·(try dsimp only);(first | (refine⟨?_,?_,?_,?_,?_,?_,?_,?_⟩ <;> (first | with_reducible assumption | ((with_reducible refine Eq.trans (cell_drew _ _) ?_);with_reducible assumption) | ((repeat rw [World.cell?_setCell_far _ _ _ _ jcv8]);with_reducible assumption) | go_keep)) | go_keep)
    clear hKQ KQ
    (try simp only [Act.put,List.setIfInBounds_toArray,List.set_cons_zero,List.set_cons_succ,List.getElem_toArray,List.getElem_cons_succ,List.getElem_cons_zero])
    refine wpAnyH_done jo0f ?_ _
    obtain⟨W,hW⟩ : ∃W,W=((((w12.setCell ⟨w1.heap.size,0,none⟩ (.bool b12)).setCell ⟨w1.heap.size,1,none⟩ (.slice A12 n12 c12)).setCell ⟨w1.heap.size,2,none⟩ (.bool d12)).setCell ⟨w1.heap.size,3,none⟩ (.slice B12 m12 k12)):=⟨_,rfl⟩
    rw [← hW]
    have HINV:Hid (DtI w1 W ⟨b12,A12,n12,c12,d12,B12,m12,k12⟩ (dotF f g (i+1))):=⟨by rw [hW];exact KS12.out.own4,by rw [hW];exact HT12.out.other4 KS12.out nu nu nu nu,by rw [hW];exact Below.set4 HB12.out (Nat.le_refl _)⟩
    clear hW KS12 HT12 HB12 r0 r1 r2 r3 z0 z1 z2 z3 zl
    go_wp2
    go_roundw
    case rel=>exact⟨i+1,_,by go_num,by omega,HINV.out⟩
    case measure=>simp [intOf];omega
  ·obtain rfl:i=n:=by omega
   have s_10:=Lib.hid HI.out.2.1
   have Ks_10:=Lib.hid HI.out.1
   have HB_10:=Lib.hid (HBw.out.trans (HI.out.2.2.mono j0i3))
   have Kr_10:=Lib.hid (HR1.out.below HI.out.2.2)
   have hne:w.heap.size≠w1.heap.size := j0i3
   clear HI
   obtain⟨p10,p11,p12,p13,l1⟩:=Ks_10.out.use4
   obtain⟨p20,p21,p22,p23,l2⟩:=Kr_10.out.use4
   obtain⟨r20,r21,r22,r23⟩:=Kr_10.out.into4
   go_wp2
   obtain⟨WF,hWF⟩ : ∃W,W=((((wr.setCell ⟨w.heap.size,0,none⟩ (.bool sb)).setCell ⟨w.heap.size,1,none⟩ (.slice sA sn sc)).setCell ⟨w.heap.size,2,none⟩ (.bool tb)).setCell ⟨w.heap.size,3,none⟩ (.slice tA tn tc)):=⟨_,rfl⟩
   rw [← hWF]
   have kq0:Blk WF (w.heap.size) 36 #[.bool sb,.slice sA sn sc,.bool tb,.slice tA tn tc] := jl68
   obtain⟨e00,e01,e02,e03⟩:=kq0.cells4
   have hBF:Below w.heap.size w WF := juup
   have fq:IsRat WF (.agg #[.bool sb,.slice sA sn sc,.bool tb,.slice tA tn tc]) (dotF f g i) := jqyj
   have HE:Hid (∃v,(Ending.returned (.tuple #[.agg #[.bool sb,.slice sA sn sc,.bool tb,.slice tA tn tc],.bool true])) = .returned (.tuple #[v,.bool true])∧IsRat WF v (dotF f g i)∧Below w.heap.size w WF):=⟨_,rfl,fq,hBF⟩
   clear hWF
   exact bodyPost_ret (v := .tuple #[.agg #[.bool sb,.slice sA sn sc,.bool tb,.slice tA tn tc],.bool true]) (by simp [results,Tryz.results30,go_sem,e00,e01,e02,e03] <;> omega) rfl HE.out
end Go.Proofs.YtgilnmhejjpleaaGreat
