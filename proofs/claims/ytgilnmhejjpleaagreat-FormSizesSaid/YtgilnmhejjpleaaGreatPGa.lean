/- A problem that came in, as one; where it is small it is as the contracts ask. -/
import Derived.Test.YtgilnmhejjpleaaGreatPFz
namespace Go.Proofs.YtgilnmhejjpleaaGreat
open Go.RowKit
set_option linter.unusedSimpArgs false
set_option linter.unusedVariables false
structure RowY where
 n:Nat
 X:Nat→RatD
 a:Nat→Int
 b:Nat→Int
structure LpY where
 cost:RowY
 m:Nat
 Y:Nat→Rw6
 X:Nat→Nat→RatD
 a:Nat→Nat→Int
 b:Nat→Nat→Int
 ha:Nat→Int
 hb:Nat→Int
 lo:RowY
 hi:RowY
 no:Nat
 op:Nat→Bool
def RowY.row(r:RowY):RowX:=⟨r.n,r.a,r.b⟩
def LpY.lp(D:LpY):LpX:=⟨D.cost.row,D.m,fun i=>⟨⟨(D.Y i).n,D.a i,D.b i⟩,(D.Y i).s,D.ha i,D.hb i⟩,D.lo.row,D.hi.row,D.no,D.op⟩
def LpC(w:World)(v:Value)(D:LpY):Prop := ∃vc vr vl vh vo,v = .agg #[vc,vr,vl,vh,vo]∧RowC w vc D.cost.n D.cost.X D.cost.a D.cost.b∧RwsC w vr D.m D.Y D.X D.a D.b D.ha D.hb∧RowC w vl D.lo.n D.lo.X D.lo.a D.lo.b∧RowC w vh D.hi.n D.hi.X D.hi.a D.hi.b∧BoolsC w vo D.no D.op
def FewL(D:LpY)(N:Nat):Prop:=(FewP D.cost.n D.cost.X N∧FewP D.lo.n D.lo.X N∧FewP D.hi.n D.hi.X N∧D.no≤100∧D.m≤N)∧∀i,i<D.m→FewP (D.Y i).n (D.X i) N∧(D.Y i).r.n≤1∧(D.Y i).r.n'≤1
section
variable {w w':World} {v:Value} {n m N:Nat} {X:Nat→RatD} {a b:Nat→Int}
theorem RowC.rowR(h:RowC w v n X a b):RowR w v n X (fun i=>ratOf (a i) (b i)):=by
 obtain⟨A,c,h0,h1,h2,h3,h4⟩:=h
 exact⟨A,c,h0,h1,h2,h3,fun i hi g g'=>⟨_,_,h4 i hi g g',rfl⟩⟩
theorem RowC.few(h:RowC w v n X a b)(hf:FewP n X N)(hN:N≤1000000):RowN 1 w v ⟨n,a,b⟩:=by
 obtain⟨A,c,h0,h1,h2,h3,h4⟩:=h
 exact⟨A,c,X,h0,h1,Nat.le_trans hf.1 hN,h3,fun i hi=>h4 i hi (hf.2 i hi).1 (hf.2 i hi).2⟩
theorem RowC.below(h:RowC w v n X a b)(hb:Below w.heap.size w w'):RowC w' v n X a b:=by
 obtain⟨A,c,h0,h1,h2,h3,h4⟩:=h
 exact⟨A,c,h0,h1,h2,h3.below hb,fun i hi g g'=>(h4 i hi g g').below hb⟩
theorem BoolsC.below {f:Nat→Bool}(h:BoolsC w v n f)(hb:Below w.heap.size w w'):BoolsC w' v n f:=by
 obtain⟨A,c,h0,h1,h2,h3⟩:=h
 refine⟨A,c,h0,h1,h2,fun i hi=>?_⟩
 obtain⟨ad,e,h4,h5⟩:=h3 i hi
 exact⟨ad,e,Nat.lt_of_lt_of_le h4 hb.size,(hb.cell (p:=ad.add i) jb1).trans h5⟩
theorem RwsC.below {Y:Nat→Rw6} {X:Nat→Nat→RatD} {a b:Nat→Nat→Int} {ha hb:Nat→Int}(h:RwsC w v m Y X a b ha hb)(hw:Below w.heap.size w w'):RwsC w' v m Y X a b ha hb:=by
 obtain⟨A,c,h0,h1,h2,h3,h4⟩:=h
 refine⟨A,c,h0,h1,h2,fun i hi=>?_,fun i hi=>⟨(h4 i hi).1,(h4 i hi).2.1.below hw,fun g g'=>((h4 i hi).2.2 g g').below hw⟩⟩
 obtain⟨ad,e,h5⟩:=h3 i hi
 exact⟨ad,e,h5.below hw⟩
theorem LpC.below {D:LpY}(h:LpC w v D)(hb:Below w.heap.size w w'):LpC w' v D:=by
 obtain⟨vc,vr,vl,vh,vo,h0,h1,h2,h3,h4,h5⟩:=h
 exact⟨vc,vr,vl,vh,vo,h0,h1.below hb,h2.below hb,h3.below hb,h4.below hb,h5.below hb⟩
theorem LpC.few {D:LpY}(h:LpC w v D)(hf:FewL D N)(hN:N≤1000000):LpQ 1 w v D.lp:=by
 obtain⟨vc,vr,vl,vh,vo,h0,h1,⟨A,c,g0,g1,g2,g3,g4⟩,h3,h4,⟨A',c',k0,k1,k2,k3⟩⟩:=h
 refine⟨vc,vr,vl,vh,vo,h0,h1.few hf.1.1 hN,⟨A,c,D.Y,g0,g1,Nat.le_trans hf.1.2.2.2.2 hN,g3,fun i hi=>⟨rfl,(g4 i hi).1,(g4 i hi).2.1.few (hf.2 i hi).1 hN,(g4 i hi).2.2 (hf.2 i hi).2.1 (hf.2 i hi).2.2⟩⟩,h3.few hf.1.2.1 hN,h4.few hf.1.2.2.1 hN,⟨A',c',k0,k1,?_,k3⟩⟩
 show D.no≤1000000
 have:=hf.1.2.2.2.1
 omega
end
end Go.Proofs.YtgilnmhejjpleaaGreat
