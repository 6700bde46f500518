/- What a problem that came in reads as. -/
import Derived.Test.YtgilnmhejjpleaaGreatPZb
import Derived.Test.YtgilnmhejjpleaaGreatPFc
import Derived.Deep.Strs
import Derived.Test.YtgilnmhejjpleaaGreatPFe
import Derived.Test.YtgilnmhejjpleaaGreatPGn
namespace Go.Proofs.YtgilnmhejjpleaaGreat
open Go.ChangeShapes Go.WideShapes Go.ChangeAt Go.RowKit
set_option linter.unusedSimpArgs false
set_option linter.unusedVariables false
set_option maxRecDepth 100000
theorem cellsRow6:Tryz.prog.cellsOf 60=6:=by kernel_rfl
theorem cellsLp5:Tryz.prog.cellsOf 26=5:=by kernel_rfl
theorem cellsRows_:Tryz.prog.cellsOf 23=1:=by kernel_rfl
theorem cellsBools_:Tryz.prog.cellsOf 24=1:=by kernel_rfl
theorem cellsBool_:Tryz.prog.cellsOf 4=1:=by kernel_rfl
theorem cellsInt_:Tryz.prog.cellsOf 3=1:=by kernel_rfl
def RowC(w:World)(v:Value)(n:Nat)(X:Nat→RatD)(a b:Nat→Int):Prop := ∃A c,v = .slice A n c∧Fits A n c∧n≤9223372036854775807∧RowAt w A n X∧∀i,i<n→(X i).n≤1→(X i).n'≤1→LimR 1 w (X i).val (a i) (b i)
def RwC(w:World)(x:Rw6)(X:Nat→RatD)(a b:Nat→Int)(ha hb:Int):Prop:=(-9223372036854775808≤x.s∧x.s≤9223372036854775807)∧RowC w (.slice x.A x.n x.c) x.n X a b∧(x.r.n≤1→x.r.n'≤1→LimR 1 w x.r.val ha hb)
def RwsC(w:World)(v:Value)(m:Nat)(Y:Nat→Rw6)(X:Nat→Nat→RatD)(a b:Nat→Nat→Int)(ha hb:Nat→Int):Prop := ∃A c,v = .slice A m c∧Fits A m c∧m≤9223372036854775807∧(∀i,i<m→∃ad,A=some ad∧Rw6At w (ad.add (i*6)) (Y i))∧∀i,i<m→RwC w (Y i) (X i) (a i) (b i) (ha i) (hb i)
def BoolsC(w:World)(v:Value)(n:Nat)(f:Nat→Bool):Prop := ∃A c,v = .slice A n c∧Fits A n c∧n≤9223372036854775807∧∀i,i<n→∃ad,A=some ad∧ad.block<w.heap.size∧w.cell? (ad.add i)=some (.bool (f i))
section
variable {P:Program} {H:Type} {enc:TypeId × Value→H} {w:World} {base:Nat} {spare:Nat→Bool} {held:Bool}
theorem trod_struct5 {t:TypeId} {f0 f1 f2 f3 f4:Field} {fuel:Nat} {cs:List Value} {x:DataW H × List MemPlace}(ht:P.underlying t=some (.struct #[f0,f1,f2,f3,f4]))(h:DataW.trod enc P w base spare held fuel t cs=some x) :
 ∃y0 y1 y2 y3 y4 n,DataW.trod enc P w base spare held n f0.type ((cs.drop f0.offset).take (P.cellsOf f0.type))=some y0∧
  DataW.trod enc P w base spare held n f1.type ((cs.drop f1.offset).take (P.cellsOf f1.type))=some y1∧DataW.trod enc P w base spare held n f2.type ((cs.drop f2.offset).take (P.cellsOf f2.type))=some y2∧
  DataW.trod enc P w base spare held n f3.type ((cs.drop f3.offset).take (P.cellsOf f3.type))=some y3∧DataW.trod enc P w base spare held n f4.type ((cs.drop f4.offset).take (P.cellsOf f4.type))=some y4:=by
 obtain⟨xs,n,_,rfl,hl,hlen,hf⟩:=DataW.trod_struct ht h
 match xs,hlen with
 | [y0,y1,y2,y3,y4],_=>exact⟨y0,y1,y2,y3,y4,n,by simpa using hf 0 f0 rfl,by simpa using hf 1 f1 rfl,by simpa using hf 2 f2 rfl,by simpa using hf 3 f3 rfl,by simpa using hf 4 f4 rfl⟩
end
section
variable {H:Type} {enc:TypeId × Value→H} {W:World} {base n:Nat} {held:Bool} {v:Value} {y:DataW H × List MemPlace}
theorem ratC_trod {c0 c1 c2 c3:Value}(ht:DataW.trod enc Tryz.prog W base (fun _=>true) held n 36 [c0,c1,c2,c3]=some y) :
 ∃ (x:RatD) (a b:Int),c0 = .bool x.b∧c1 = .slice x.A x.n x.c∧c2 = .bool x.b'∧c3 = .slice x.A' x.n' x.c'∧(x.n≤1→x.n'≤1→LimR 1 W x.val a b):=by
 obtain⟨y0,y1,m,_,_,h0,h1⟩:=trod_struct2 Tryz.underlying36 ht
 simp only [cellsRI_,List.drop_zero,List.drop_succ_cons,List.take_succ_cons,List.take_zero] at h0 h1
 obtain⟨b,s,l',c',X,rfl,rfl,hX⟩:=part_open h0
 obtain⟨b',s',l'',c'',Y,rfl,rfl,hY⟩:=part_open h1
 exact⟨⟨b,s,l',c',b',s',l'',c''⟩,X,Y,rfl,rfl,rfl,rfl,fun g g'=>limR_mk (hX.more g) (hY.more g')⟩
theorem rowC_trod(hf:DataW.trod enc Tryz.prog W base (fun _=>true) held n 22 [v]=some y) :
 ∃ (len:Nat) (X:Nat→RatD) (a b:Nat→Int),RowC W v len X a b:=by
 obtain⟨d,p⟩:=y
 rcases DataW.trod_slice Tryz.underlying22 hf with ⟨hcs,_⟩ | ⟨a,l,c,elems,rest,n,_,hcs,_,hb,hl,hm,hlen,hel,_⟩
 ·simp at hcs
  subst hcs
  exact⟨0,fun _=>ratZ,fun _=>0,fun _=>0,none,0,rfl,⟨Nat.le_refl _,fun _=>rfl⟩,by omega,fun i hi=>absurd hi j0i3,fun i hi=>absurd hi j0i3⟩
 ·simp at hcs
  subst hcs
  have each : ∀i,∃t:RatD × Int × Int,i<l→RatAt W (a.add (i*4)) t.1∧(t.1.n≤1→t.1.n'≤1→LimR 1 W t.1.val t.2.1 t.2.2):=fun i=>by
   by_cases hi:i<l
   ·have he:=hel i hi
    obtain⟨y,hy⟩ : ∃y,elems[i]? = some y:=⟨elems[i],List.getElem?_eq_getElem j0i3⟩
    rw [hy,Option.bind_eq_some_iff,cellsR_] at he
    obtain⟨cs,hc,ht⟩:=he
    have hblk:=World.cells?_block hc j0i3
    obtain⟨_,hcl,hcc⟩:=World.cells?_some hc
    obtain⟨c0,c1,c2,c3,rfl⟩ : ∃c0 c1 c2 c3,cs = [c0,c1,c2,c3]:=by
     match cs,hcl with
     | [c0,c1,c2,c3],_=>exact⟨c0,c1,c2,c3,rfl⟩
    have q0:=hcc 0 j0i3
    have q1:=hcc 1 j0i3
    have q2:=hcc 2 j0i3
    have q3:=hcc 3 j0i3
    obtain⟨x,X,Y,rfl,rfl,rfl,rfl,hx⟩:=ratC_trod ht
    refine⟨(x,X,Y),fun _=>⟨⟨hblk,?_,?_,?_,?_⟩,hx⟩⟩
    ·have:(a.add (i*4)).add 0=a.add (i*4):=rfl
     rw [this] at q0
     exact q0
    ·rw [adr_add _ 1 j0i3] at q1;exact q1
    ·rw [adr_add _ 2 j0i3] at q2;exact q2
    ·rw [adr_add _ 3 j0i3] at q3;exact q3
   ·exact⟨(ratZ,0,0),fun h=>absurd h hi⟩
  obtain⟨g,hg⟩:=Classical.axiomOfChoice each
  exact⟨l,fun i=>(g i).1,fun i=>(g i).2.1,fun i=>(g i).2.2,some a,c,rfl,⟨hl,fun e=>by cases e⟩,by simp only [maxLen] at hm;omega,fun i hi=>⟨a,rfl,(hg i hi).1⟩,fun i hi=>(hg i hi).2⟩
theorem rwC_trod {c0 c1 c2 c3 c4 c5:Value}(ht:DataW.trod enc Tryz.prog W base (fun _=>true) held n 60 [c0,c1,c2,c3,c4,c5]=some y) :
 ∃ (x:Rw6) (X:Nat→RatD) (a b:Nat→Int) (ha hb:Int),c0 = .slice x.A x.n x.c∧c1 = .int .i64 x.s∧c2 = .bool x.r.b∧c3 = .slice x.r.A x.r.n x.r.c∧c4 = .bool x.r.b'∧c5 = .slice x.r.A' x.r.n' x.r.c'∧RwC W x X a b ha hb:=by
 obtain⟨y0,y1,y2,m,_,_,h0,h1,h2⟩:=Go.Deep.trod_struct3 Tryz.underlying60 ht
 simp only [cellsRow_,cellsInt_,cellsR_,List.drop_zero,List.drop_succ_cons,List.take_succ_cons,List.take_zero] at h0 h1 h2
 obtain⟨len,X,a,b,hr⟩:=rowC_trod h0
 obtain⟨z,e1,_,f1⟩:=DataW.trod_int Tryz.underlying3 h1
 simp at e1
 subst e1
 obtain⟨x,ha,hb,rfl,rfl,rfl,rfl,hx⟩:=ratC_trod h2
 obtain⟨A,c,rfl,hr'⟩:=id hr
 have b2 : -9223372036854775808≤z∧z≤9223372036854775807:=by simp [Lit.wf,IntKind.min,IntKind.max,IntKind.bits,IntKind.signed] at f1;omega
 exact⟨⟨A,len,c,z,x⟩,X,a,b,ha,hb,rfl,rfl,rfl,rfl,rfl,rfl,b2,hr,hx⟩
theorem rwsC_trod(hf:DataW.trod enc Tryz.prog W base (fun _=>true) held n 23 [v]=some y) :
 ∃ (len:Nat) (Y:Nat→Rw6) (X:Nat→Nat→RatD) (a b:Nat→Nat→Int) (ha hb:Nat→Int),RwsC W v len Y X a b ha hb:=by
 obtain⟨d,p⟩:=y
 rcases DataW.trod_slice Tryz.underlying23 hf with ⟨hcs,_⟩ | ⟨a,l,c,elems,rest,n,_,hcs,_,hb,hl,hm,hlen,hel,_⟩
 ·simp at hcs
  subst hcs
  exact⟨0,fun _=>⟨none,0,0,0,ratZ⟩,fun _ _=>ratZ,fun _ _=>0,fun _ _=>0,fun _=>0,fun _=>0,none,0,rfl,⟨Nat.le_refl _,fun _=>rfl⟩,by omega,fun i hi=>absurd hi j0i3,fun i hi=>absurd hi j0i3⟩
 ·simp at hcs
  subst hcs
  have each : ∀i,∃t:Rw6 × (Nat→RatD) × (Nat→Int) × (Nat→Int) × Int × Int,i<l→Rw6At W (a.add (i*6)) t.1∧RwC W t.1 t.2.1 t.2.2.1 t.2.2.2.1 t.2.2.2.2.1 t.2.2.2.2.2:=fun i=>by
   by_cases hi:i<l
   ·have he:=hel i hi
    obtain⟨y,hy⟩ : ∃y,elems[i]? = some y:=⟨elems[i],List.getElem?_eq_getElem j0i3⟩
    rw [hy,Option.bind_eq_some_iff,cellsRow6] at he
    obtain⟨cs,hc,ht⟩:=he
    have hblk:=World.cells?_block hc j0i3
    obtain⟨_,hcl,hcc⟩:=World.cells?_some hc
    obtain⟨c0,c1,c2,c3,c4,c5,rfl⟩ : ∃c0 c1 c2 c3 c4 c5,cs = [c0,c1,c2,c3,c4,c5]:=by
     match cs,hcl with
     | [c0,c1,c2,c3,c4,c5],_=>exact⟨c0,c1,c2,c3,c4,c5,rfl⟩
    have q0:=hcc 0 j0i3
    have q1:=hcc 1 j0i3
    have q2:=hcc 2 j0i3
    have q3:=hcc 3 j0i3
    have q4:=hcc 4 j0i3
    have q5:=hcc 5 j0i3
    obtain⟨x,X,a',b',ha,hb,rfl,rfl,rfl,rfl,rfl,rfl,hx⟩:=rwC_trod ht
    refine⟨(x,X,a',b',ha,hb),fun _=>⟨⟨hblk,?_,?_,?_,?_,?_,?_⟩,hx⟩⟩
    ·have:(a.add (i*6)).add 0=a.add (i*6):=rfl
     rw [this] at q0
     exact q0
    ·rw [adr_add _ 1 j0i3] at q1;exact q1
    ·rw [adr_add _ 2 j0i3] at q2;exact q2
    ·rw [adr_add _ 3 j0i3] at q3;exact q3
    ·rw [adr_add _ 4 j0i3] at q4;exact q4
    ·rw [adr_add _ 5 j0i3] at q5;exact q5
   ·exact⟨(⟨none,0,0,0,ratZ⟩,fun _=>ratZ,fun _=>0,fun _=>0,0,0),fun h=>absurd h hi⟩
  obtain⟨g,hg⟩:=Classical.axiomOfChoice each
  exact⟨l,fun i=>(g i).1,fun i=>(g i).2.1,fun i=>(g i).2.2.1,fun i=>(g i).2.2.2.1,fun i=>(g i).2.2.2.2.1,fun i=>(g i).2.2.2.2.2,some a,c,rfl,⟨hl,fun e=>by cases e⟩,by simp only [maxLen] at hm;omega,fun i hi=>⟨a,rfl,(hg i hi).1⟩,fun i hi=>(hg i hi).2⟩
theorem boolsC_trod(hf:DataW.trod enc Tryz.prog W base (fun _=>true) held n 24 [v]=some y) :
 ∃ (len:Nat) (f:Nat→Bool),BoolsC W v len f:=by
 obtain⟨d,p⟩:=y
 rcases DataW.trod_slice Tryz.underlying24 hf with ⟨hcs,_⟩ | ⟨a,l,c,elems,rest,n,_,hcs,_,hb,hl,hm,hlen,hel,_⟩
 ·simp at hcs
  subst hcs
  exact⟨0,fun _=>false,none,0,rfl,⟨Nat.le_refl _,fun _=>rfl⟩,by omega,fun i hi=>absurd hi j0i3⟩
 ·simp at hcs
  subst hcs
  have each : ∀i,∃t:Bool,i<l→a.block<W.heap.size∧W.cell? (a.add i)=some (.bool t):=fun i=>by
   by_cases hi:i<l
   ·have he:=hel i hi
    obtain⟨y,hy⟩ : ∃y,elems[i]? = some y:=⟨elems[i],List.getElem?_eq_getElem j0i3⟩
    rw [hy,Option.bind_eq_some_iff,cellsBool_] at he
    obtain⟨cs,hc,ht⟩:=he
    have hblk:=World.cells?_block hc j0i3
    rw [add_block] at hblk
    obtain⟨_,hcl,hcc⟩:=World.cells?_some hc
    obtain⟨c0,rfl⟩ : ∃c0,cs = [c0]:=by
     match cs,hcl with
     | [c0],_=>exact⟨c0,rfl⟩
    have q0:=hcc 0 j0i3
    obtain⟨b,e3,_⟩:=DataW.trod_bool Tryz.underlying4 ht
    simp at e3
    subst e3
    have e00:(a.add (i*1)).add 0=a.add i:=by rw [Nat.mul_one];rfl
    rw [e00] at q0
    exact⟨b,fun _=>⟨hblk,q0⟩⟩
   ·exact⟨false,fun h=>absurd h hi⟩
  obtain⟨g,hg⟩:=Classical.axiomOfChoice each
  exact⟨l,g,some a,c,rfl,⟨hl,fun e=>by cases e⟩,by simp only [maxLen] at hm;omega,fun i hi=>⟨a,rfl,(hg i hi).1,(hg i hi).2⟩⟩
end
theorem lp_open {H:Type} {enc:TypeId × Value→H} {W:World} {base b0:Nat} {held:Bool} {r:Reach} {v:Value} {d:DataW H} {p:List MemPlace}(hv:Value.okWide Tryz.prog W r b0 26 v)(h:DataW.Trod enc Tryz.prog W base (fun _=>true) held 26 v d p) :
 ∃vc vr vl vh vo nc Xc ac bc m Y X a b ha hb nl Xl al bl nh Xh ah bh no f,v = .agg #[vc,vr,vl,vh,vo]∧RowC W vc nc Xc ac bc∧RwsC W vr m Y X a b ha hb∧RowC W vl nl Xl al bl∧RowC W vh nh Xh ah bh∧BoolsC W vo no f:=by
 obtain⟨cs,rfl,hsz⟩:=okWide_struct Tryz.underlying26 hv
 obtain⟨c0,c1,c2,c3,c4,rfl⟩ : ∃c0 c1 c2 c3 c4,cs = #[c0,c1,c2,c3,c4]:=by
  have h5:cs.size=5:=hsz.trans cellsLp5
  obtain⟨l⟩:=cs
  match l,h5 with
  | [c0,c1,c2,c3,c4],_=>exact⟨c0,c1,c2,c3,c4,rfl⟩
 obtain⟨fuel,hf⟩:=h
 obtain⟨y0,y1,y2,y3,y4,m',h0,h1,h2,h3,h4⟩:=trod_struct5 Tryz.underlying26 hf
 simp only [cellsRow_,cellsRows_,cellsBools_,Value.cells,List.drop_zero,List.drop_succ_cons,List.take_succ_cons,List.take_zero] at h0 h1 h2 h3 h4
 obtain⟨nc,Xc,ac,bc,r0⟩:=rowC_trod h0
 obtain⟨m,Y,X,a,b,ha,hb,r1⟩:=rwsC_trod h1
 obtain⟨nl,Xl,al,bl,r2⟩:=rowC_trod h2
 obtain⟨nh,Xh,ah,bh,r3⟩:=rowC_trod h3
 obtain⟨no,f,r4⟩:=boolsC_trod h4
 exact⟨c0,c1,c2,c3,c4,nc,Xc,ac,bc,m,Y,X,a,b,ha,hb,nl,Xl,al,bl,nh,Xh,ah,bh,no,f,rfl,r0,r1,r2,r3,r4⟩
end Go.Proofs.YtgilnmhejjpleaaGreat
namespace Go.Proofs.YtgilnmhejjpleaaGreat
open Go.RowKit
set_option linter.unusedSimpArgs false
set_option linter.unusedVariables false
structure RowY where
 n:Nat
 X:Nat→RatD
 a:Nat→Int
 b:Nat→Int
structure LpY where
 cost:RowY
 m:Nat
 Y:Nat→Rw6
 X:Nat→Nat→RatD
 a:Nat→Nat→Int
 b:Nat→Nat→Int
 ha:Nat→Int
 hb:Nat→Int
 lo:RowY
 hi:RowY
 no:Nat
 op:Nat→Bool
def RowY.row(r:RowY):RowX:=⟨r.n,r.a,r.b⟩
def LpY.lp(D:LpY):LpX:=⟨D.cost.row,D.m,fun i=>⟨⟨(D.Y i).n,D.a i,D.b i⟩,(D.Y i).s,D.ha i,D.hb i⟩,D.lo.row,D.hi.row,D.no,D.op⟩
def LpC(w:World)(v:Value)(D:LpY):Prop := ∃vc vr vl vh vo,v = .agg #[vc,vr,vl,vh,vo]∧RowC w vc D.cost.n D.cost.X D.cost.a D.cost.b∧RwsC w vr D.m D.Y D.X D.a D.b D.ha D.hb∧RowC w vl D.lo.n D.lo.X D.lo.a D.lo.b∧RowC w vh D.hi.n D.hi.X D.hi.a D.hi.b∧BoolsC w vo D.no D.op
def FewL(D:LpY)(N:Nat):Prop:=(FewP D.cost.n D.cost.X N∧FewP D.lo.n D.lo.X N∧FewP D.hi.n D.hi.X N∧D.no≤100∧D.m≤N)∧∀i,i<D.m→FewP (D.Y i).n (D.X i) N∧(D.Y i).r.n≤1∧(D.Y i).r.n'≤1
section
variable {w w':World} {v:Value} {n m N:Nat} {X:Nat→RatD} {a b:Nat→Int}
theorem RowC.rowR(h:RowC w v n X a b):RowR w v n X (fun i=>ratOf (a i) (b i)):=by
 obtain⟨A,c,h0,h1,h2,h3,h4⟩:=h
 exact⟨A,c,h0,h1,h2,h3,fun i hi g g'=>⟨_,_,h4 i hi g g',rfl⟩⟩
theorem RowC.few(h:RowC w v n X a b)(hf:FewP n X N)(hN:N≤1000000):RowN 1 w v ⟨n,a,b⟩:=by
 obtain⟨A,c,h0,h1,h2,h3,h4⟩:=h
 exact⟨A,c,X,h0,h1,Nat.le_trans hf.1 hN,h3,fun i hi=>h4 i hi (hf.2 i hi).1 (hf.2 i hi).2⟩
theorem RowC.below(h:RowC w v n X a b)(hb:Below w.heap.size w w'):RowC w' v n X a b:=by
 obtain⟨A,c,h0,h1,h2,h3,h4⟩:=h
 exact⟨A,c,h0,h1,h2,h3.below hb,fun i hi g g'=>(h4 i hi g g').below hb⟩
theorem BoolsC.below {f:Nat→Bool}(h:BoolsC w v n f)(hb:Below w.heap.size w w'):BoolsC w' v n f:=by
 obtain⟨A,c,h0,h1,h2,h3⟩:=h
 refine⟨A,c,h0,h1,h2,fun i hi=>?_⟩
 obtain⟨ad,e,h4,h5⟩:=h3 i hi
 exact⟨ad,e,Nat.lt_of_lt_of_le h4 hb.size,(hb.cell (p:=ad.add i) j74y).trans h5⟩
theorem RwsC.below {Y:Nat→Rw6} {X:Nat→Nat→RatD} {a b:Nat→Nat→Int} {ha hb:Nat→Int}(h:RwsC w v m Y X a b ha hb)(hw:Below w.heap.size w w'):RwsC w' v m Y X a b ha hb:=by
 obtain⟨A,c,h0,h1,h2,h3,h4⟩:=h
 refine⟨A,c,h0,h1,h2,fun i hi=>?_,fun i hi=>⟨(h4 i hi).1,(h4 i hi).2.1.below hw,fun g g'=>((h4 i hi).2.2 g g').below hw⟩⟩
 obtain⟨ad,e,h5⟩:=h3 i hi
 exact⟨ad,e,h5.below hw⟩
theorem LpC.below {D:LpY}(h:LpC w v D)(hb:Below w.heap.size w w'):LpC w' v D:=by
 obtain⟨vc,vr,vl,vh,vo,h0,h1,h2,h3,h4,h5⟩:=h
 exact⟨vc,vr,vl,vh,vo,h0,h1.below hb,h2.below hb,h3.below hb,h4.below hb,h5.below hb⟩
theorem LpC.few {D:LpY}(h:LpC w v D)(hf:FewL D N)(hN:N≤1000000):LpQ 1 w v D.lp:=by
 obtain⟨vc,vr,vl,vh,vo,h0,h1,⟨A,c,g0,g1,g2,g3,g4⟩,h3,h4,⟨A',c',k0,k1,k2,k3⟩⟩:=h
 refine⟨vc,vr,vl,vh,vo,h0,h1.few hf.1.1 hN,⟨A,c,D.Y,g0,g1,Nat.le_trans hf.1.2.2.2.2 hN,g3,fun i hi=>⟨rfl,(g4 i hi).1,(g4 i hi).2.1.few (hf.2 i hi).1 hN,(g4 i hi).2.2 (hf.2 i hi).2.1 (hf.2 i hi).2.2⟩⟩,h3.few hf.1.2.1 hN,h4.few hf.1.2.2.1 hN,⟨A',c',k0,k1,?_,k3⟩⟩
 show D.no≤1000000
 have:=hf.1.2.2.2.1
 omega
end
end Go.Proofs.YtgilnmhejjpleaaGreat
namespace Go.Proofs.YtgilnmhejjpleaaGreat
open Go.RowKit
attribute [local go_sem ↓] Go.wp_at_zero Go.wp_at_succ
set_option linter.unusedVariables false
set_option linter.unusedSimpArgs false
def YesIf(w w':World)(e:Ending)(P:Prop):Prop:=(∃b,e = .returned (.bool b)∧(b=true→P))∧Below w.heap.size w w'
theorem one_rowR(w:World)(x:RatD) {X Y:Int}(h:x.n≤1→x.n'≤1→LimR 1 w x.val X Y):RowR (w.alloc (.cells #[.bool x.b,.slice x.A x.n x.c,.bool x.b',.slice x.A' x.n' x.c'] 36)) (.slice (some ⟨w.heap.size,0,none⟩) 1 1) 1 (fun _=>x) (fun _=>ratOf X Y) :=
 ⟨_,1,rfl,⟨Nat.le_refl _,fun e=>by cases e⟩,by omega,rowAt_one w _ rfl x,fun i hi g g'=>⟨_,_,(h g g').below (below_new _ _),rfl⟩⟩
set_option maxRecDepth 100000 in
set_option maxHeartbeats 4000000 in
theorem rfew11 {w:World} {v:Value} {D:LpY} {N:Nat}(h:LpC w v D)(hN:N≤1000) :
 Calls Tryz.prog 10 #[v,.int .i64 (N:Nat)] w fun e w'=>YesIf w w' e (FewL D N):=by
 obtain⟨vc,vr,vl,vh,vo,rfl,hc,hr,hl,hh,ho⟩:=h
 obtain⟨Ac,cc,rfl,_,nc0,_⟩:=id hc
 obtain⟨Ar,cr,rfl,_,nm0,hr1,hr2⟩:=id hr
 obtain⟨Al,cl,rfl,_,nl0,_⟩:=id hl
 obtain⟨Ah,ch,rfl,_,nh0,_⟩:=id hh
 obtain⟨Ao,co,rfl,_,no0,_⟩:=id ho
 have HC:=Lib.hid hc.rowR
 have HLo:=Lib.hid hl.rowR
 have HHi:=Lib.hid hh.rowR
 have HR1:=Lib.hid hr1
 have HR2:=Lib.hid hr2
 clear hc hr hl hh ho hr1 hr2
 go_enter Tryz.func10,Tryz.ntmps10
 go_wp2_with fail
 refine Calls.mono (rfew (HC.out.alloc_ _) hN) ?_
 rintro e wq ⟨⟨b,rfl,hb⟩,hw⟩
 have hw':=hw.symm
 subst hw'
 clear hw
 cases b
 ·clear hb
  go_wp2
  go_ret
  exact⟨⟨_,rfl,fun h => j40t⟩,below_new _ _⟩
 have F1:=Lib.hid (hb.1 rfl)
 clear hb
 go_wp2_with fail
 refine Calls.mono (rfew (HLo.out.alloc_ _) hN) ?_
 rintro e wq ⟨⟨b,rfl,hb⟩,hw⟩
 have hw':=hw.symm
 subst hw'
 clear hw
 cases b
 ·clear hb
  go_wp2
  go_ret
  exact⟨⟨_,rfl,fun h => j40t⟩,below_new _ _⟩
 have F2:=Lib.hid (hb.1 rfl)
 clear hb
 go_wp2_with fail
 refine Calls.mono (rfew (HHi.out.alloc_ _) hN) ?_
 rintro e wq ⟨⟨b,rfl,hb⟩,hw⟩
 have hw':=hw.symm
 subst hw'
 clear hw
 cases b
 ·clear hb
  go_wp2
  go_ret
  exact⟨⟨_,rfl,fun h => j40t⟩,below_new _ _⟩
 have F3:=Lib.hid (hb.1 rfl)
 clear hb
 by_cases h100:100<D.no
 ·have d1:(100:Int)<(D.no:Int):=by omega
  go_wp2
  go_ret
  exact⟨⟨_,rfl,fun h => j40t⟩,below_new _ _⟩
 have d1 : ¬ ((100:Int)<(D.no:Int)) := j0i3
 have d2:decide ((100:Int)<(D.no:Int))=false:=decide_eq_false d1
 by_cases hmN:N<D.m
 ·have d3:(N:Int)<(D.m:Int):=by omega
  go_wp2
  go_ret
  exact⟨⟨_,rfl,fun h => j40t⟩,below_new _ _⟩
 have d3 : ¬ ((N:Int)<(D.m:Int)) := j0i3
 have d4:decide ((N:Int)<(D.m:Int))=false:=decide_eq_false d3
 have HB1:=Lib.hid (show Below w.heap.size w (w.alloc (.cells #[.slice Ac D.cost.n cc,.slice Ar D.m cr,.slice Al D.lo.n cl,.slice Ah D.hi.n ch,.slice Ao D.no co] 26)) from below_new _ _)
 have KP1:=Lib.hid (show Blk (w.alloc (.cells #[.slice Ac D.cost.n cc,.slice Ar D.m cr,.slice Al D.lo.n cl,.slice Ah D.hi.n ch,.slice Ao D.no co] 26)) w.heap.size 26 #[.slice Ac D.cost.n cc,.slice Ar D.m cr,.slice Al D.lo.n cl,.slice Ah D.hi.n ch,.slice Ao D.no co] from Blk.new _ _ rfl _ _)
 go_wp2
 generalize (w.alloc (.cells #[.slice Ac D.cost.n cc,.slice Ar D.m cr,.slice Al D.lo.n cl,.slice Ah D.hi.n ch,.slice Ao D.no co] 26))=w1 at *
 go_loopw [5] (fun v5 wr => ∃ (i:Nat),v5 = .int .i64 (i:Nat)∧i≤D.m∧Below w1.heap.size w1 wr∧∀q,q<i→FewP (D.Y q).n (D.X q) N∧(D.Y q).r.n≤1∧(D.Y q).r.n'≤1) (fun v5 _=>D.m - (intOf v5).toNat)
 case atStart=>exact⟨0,rfl,Nat.zero_le _,Below.refl _ _,fun q hq=>absurd hq j0i3⟩
 case round =>
  obtain⟨i,rfl,hi,hbw,hinv⟩:=hrel
  have HB2:=Lib.hid hbw
  have HI:=Lib.hid hinv
  clear hbw hinv
  have HBw:=Lib.hid (below_trans HB1.out HB2.out)
  have KP2:=Lib.hid (KP1.out.below HB2.out)
  obtain⟨k0,k1,k2,k3,k4,kl⟩:=KP2.out.use5
  by_cases hlt:i<D.m
  ·have hi0:(0:Int)≤(i:Int):=by omega
   have hik:(i:Int)<(D.m:Int) := j0i3
   obtain⟨ad,e1,hat⟩:=HR1.out i hlt
   have h2:=HR2.out i hlt
   subst e1
   obtain⟨⟨xA0,xn0,xc0,xs,⟨b9,A9,n9,c9,d9,B9,m9,k9⟩⟩,hY⟩ : ∃z,D.Y i=z:=⟨_,rfl⟩
   rw [hY] at hat h2
   obtain⟨x0,x1,x2,x3,x4,x5,x6⟩:=hat.below HBw.out
   have HY:=Lib.hid hY
   have HRc:=Lib.hid (h2.2.1.rowR.below HBw.out)
   have HRh:=Lib.hid (fun g g'=>(h2.2.2 g g').below HBw.out)
   clear hY hat h2
   go_wp2_with fail
   refine Calls.mono (rfew HRc.out hN) ?_
   rintro e wq ⟨⟨b,rfl,hb⟩,hw⟩
   have hw':=hw.symm
   subst hw'
   clear hw
   cases b
   ·clear hb
    go_wp2
    go_ret
    exact⟨⟨_,rfl,fun h => j40t⟩,HBw.out⟩
   have F4:=Lib.hid (hb.1 rfl)
   clear hb
   go_wp2_with fail
   refine Calls.mono (rfew (N:=1) (one_rowR wr ⟨b9,A9,n9,c9,d9,B9,m9,k9⟩ HRh.out) j0i3) ?_
   rintro e wq ⟨⟨b,rfl,hb⟩,hw⟩
   have hw':=hw.symm
   subst hw'
   clear hw
   cases b
   ·clear hb
    go_wp2
    go_ret
    exact⟨⟨_,rfl,fun h => j40t⟩,below_trans HBw.out (below_new _ _)⟩
   have F5:=Lib.hid ((hb.1 rfl).2 0 j0i3)
   clear hb
   have HB3:=Lib.hid (below_trans HB2.out (below_new wr (.cells #[.bool b9,.slice A9 n9 c9,.bool d9,.slice B9 m9 k9] 36)))
   go_wp2
   go_roundw
   case rel=>exact⟨i+1,by go_num,by omega,HB3.out,fun q hq=>by
    by_cases hqi:q=i
    ·subst hqi;rw [HY.out];exact⟨F4.out,F5.out⟩
    ·exact HI.out q j0i3⟩
   case measure=>simp [intOf];omega
  ·obtain rfl:i=D.m:=by omega
   go_wp2
   go_ret
   exact⟨⟨_,rfl,fun _=>⟨⟨F1.out,F2.out,F3.out,by omega,by omega⟩,HI.out⟩⟩,HBw.out⟩
end Go.Proofs.YtgilnmhejjpleaaGreat
namespace Go.Proofs.YtgilnmhejjpleaaGreat
open Go.RowKit
set_option linter.unusedSimpArgs false
set_option linter.unusedVariables false
attribute [local go_sem ↓] Go.wp_at_zero Go.wp_at_succ
theorem Blk.cells3 {w:World} {g:Nat} {t:TypeId} {x0 x1 x2:Value}(h:Blk w g t #[x0,x1,x2]):w.cell? ⟨g,0,none⟩=some x0∧w.cell? ⟨g,1,none⟩=some x1∧w.cell? ⟨g,2,none⟩=some x2:=⟨h.cell 0,h.cell 1,h.cell 2⟩
set_option maxRecDepth 100000 in
set_option maxHeartbeats 1000000 in
theorem pstd_no {k:Nat} {w:World} {v:Value} {p:LpX}(h:LpQ k w v p)(hm : ¬MayX p)(hk:k≤300)(h1:1≤k) :
 Calls Tryz.prog 11 #[v] w fun e w' => ∃vr,e = .returned (.tuple #[.agg #[.slice none 0 0,.slice none 0 0,.slice none 0 0],vr,.int .i64 1])∧IsRat w' vr 0∧Below w.heap.size w w':=by
 obtain⟨Ac,cc,Ar,cr,Al,cl,Ah,ch,Ao,co,rfl,hqc,hqr,hql,hqh,hqo,g1,g2,g3,g4,g5⟩:=h.form
 have p_0:=Lib.hid (show LpQ k w (.agg #[.slice Ac p.cost.n cc,.slice Ar p.m cr,.slice Al p.lo.n cl,.slice Ah p.hi.n ch,.slice Ao p.no co]) p from⟨_,_,_,_,_,rfl,hqc,hqr,hql,hqh,hqo⟩)
 have HM:=Lib.hid (mayB_false.2 hm)
 clear h hm hqr hqh hqo hqc hql
 go_enter Tryz.func11,Tryz.ntmps11
 go_wp2_with fail
 refine Calls.mono (pMay_is (r:=false) HM.out (((p_0.out.alloc_ _).alloc_ _).alloc_ _) j0i3 h1) ?_
 rintro e w1 ⟨rfl,hb⟩
 have hB:=bun (bun (bun (hb)))
 have p_1:=Lib.hid (p_0.out.below hB)
 have Kp_1:=Lib.hid (show Blk w1 (w.heap.size) 26 #[.slice Ac p.cost.n cc,.slice Ar p.m cr,.slice Al p.lo.n cl,.slice Ah p.hi.n ch,.slice Ao p.no co] from(((Blk.new _ _ jupy _ _).alloc_ _).alloc_ _).below hb)
 have Ks_1:=Lib.hid (show Blk w1 (w.heap.size+1) 31 #[.slice none 0 0,.slice none 0 0,.slice none 0 0] from((Blk.new _ _ jupy _ _).alloc_ _).below hb)
 have Kr_1:=Lib.hid (show Blk w1 (w.heap.size+1+1) 36 #[.bool false,.slice none 0 0,.bool false,.slice none 0 0] from(Blk.new _ _ jupy _ _).below hb)
 have HB_1:=Lib.hid (hB)
 have hs_1:w.heap.size≤w1.heap.size:=HB_1.out.size
 have hz_1:w.heap.size+3≤w1.heap.size := jrv7
 clear hB hb p_0
 obtain⟨p10,p11,p12,p13,p14,l1⟩:=Kp_1.out.use5
 go_wp2_with fail
 refine Calls.mono (pzero _) ?_
 rintro e w2 ⟨v,rfl,h,hb⟩
 obtain⟨b2,A2,n2,c2,d2,B2,m2,k2,rfl,-,-,-,h1,h2⟩:=h.form
 have hB:=hb
 have Kp_2:=Lib.hid (Kp_1.out.below hB)
 have Ks_2:=Lib.hid (Ks_1.out.below hB)
 have Kr_2:=Lib.hid (Kr_1.out.below hB)
 have z_2:=Lib.hid (h1)
 have z2_2:=Lib.hid (h2)
 have HB_2:=Lib.hid (below_trans HB_1.out hB)
 have hs_2:w.heap.size≤w2.heap.size:=HB_2.out.size
 have hz_2:w1.heap.size+0≤w2.heap.size := jrv7
 clear hB hb p_1 Kp_1 Ks_1 Kr_1 HB_1 p10 p11 p12 p13 p14 l1
 obtain⟨p20,p21,p22,l2⟩:=Ks_2.out.use3
 obtain⟨p30,p31,p32,l3⟩:=Ks_2.out.use3
 obtain⟨r30,r31,r32⟩:=Ks_2.out.into3
 obtain⟨p40,p41,p42,p43,l4⟩:=Kr_2.out.use4
 obtain⟨r40,r41,r42,r43⟩:=Kr_2.out.into4
 go_wp2
 obtain⟨WF,hWF⟩ : ∃W,W=(((((((w2.setCell ⟨w.heap.size+1,0,none⟩ (.slice none 0 0)).setCell ⟨w.heap.size+1,1,none⟩ (.slice none 0 0)).setCell ⟨w.heap.size+1,2,none⟩ (.slice none 0 0)).setCell ⟨w.heap.size+1+1,0,none⟩ (.bool b2)).setCell ⟨w.heap.size+1+1,1,none⟩ (.slice A2 n2 c2)).setCell ⟨w.heap.size+1+1,2,none⟩ (.bool d2)).setCell ⟨w.heap.size+1+1,3,none⟩ (.slice B2 m2 k2)):=⟨_,rfl⟩
 rw [← hWF]
 have kq0:Blk WF (w.heap.size+1) 31 #[.slice none 0 0,.slice none 0 0,.slice none 0 0]:=by rw [hWF];exact(((((((Ks_2.out.set_ 0 (.slice none 0 0)).set_ 1 (.slice none 0 0)).set_ 2 (.slice none 0 0)).other j0i3 0 (.bool b2)).other j0i3 1 (.slice A2 n2 c2)).other j0i3 2 (.bool d2)).other j0i3 3 (.slice B2 m2 k2))
 obtain⟨e00,e01,e02⟩:=kq0.cells3
 have kq1:Blk WF (w.heap.size+1+1) 36 #[.bool b2,.slice A2 n2 c2,.bool d2,.slice B2 m2 k2]:=by rw [hWF];exact(((((((Kr_2.out.other j0i3 0 (.slice none 0 0)).other j0i3 1 (.slice none 0 0)).other j0i3 2 (.slice none 0 0)).set_ 0 (.bool b2)).set_ 1 (.slice A2 n2 c2)).set_ 2 (.bool d2)).set_ 3 (.slice B2 m2 k2))
 obtain⟨e10,e11,e12,e13⟩:=kq1.cells4
 have hBF:Below w.heap.size w WF:=by rw [hWF];exact(bset (bset (bset (bset (bset (bset (bset HB_2.out j0i3) j0i3) j0i3) j0i3) j0i3) j0i3) j0i3)
 have f1:IsInt WF (.agg #[.bool b2,.slice A2 n2 c2]) (0:Rat).num:=by rw [hWF];exact(((((((z_2.out.one Ks_2.out (i:=0) (x := .slice none 0 0) (y := .slice none 0 0) rfl nu).one (Ks_2.out.set_ 0 (.slice none 0 0)) (i:=1) (x := .slice none 0 0) (y := .slice none 0 0) rfl nu).one ((Ks_2.out.set_ 0 (.slice none 0 0)).set_ 1 (.slice none 0 0)) (i:=2) (x := .slice none 0 0) (y := .slice none 0 0) rfl nu).one (((Kr_2.out.other j0i3 0 (.slice none 0 0)).other j0i3 1 (.slice none 0 0)).other j0i3 2 (.slice none 0 0)) (i:=0) (x := .bool false) (y := .bool b2) rfl nu).one ((((Kr_2.out.other j0i3 0 (.slice none 0 0)).other j0i3 1 (.slice none 0 0)).other j0i3 2 (.slice none 0 0)).set_ 0 (.bool b2)) (i:=1) (x := .slice none 0 0) (y := .slice A2 n2 c2) rfl nu).one (((((Kr_2.out.other j0i3 0 (.slice none 0 0)).other j0i3 1 (.slice none 0 0)).other j0i3 2 (.slice none 0 0)).set_ 0 (.bool b2)).set_ 1 (.slice A2 n2 c2)) (i:=2) (x := .bool false) (y := .bool d2) rfl nu).one ((((((Kr_2.out.other j0i3 0 (.slice none 0 0)).other j0i3 1 (.slice none 0 0)).other j0i3 2 (.slice none 0 0)).set_ 0 (.bool b2)).set_ 1 (.slice A2 n2 c2)).set_ 2 (.bool d2)) (i:=3) (x := .slice none 0 0) (y := .slice B2 m2 k2) rfl nu)
 have f2:IsInt WF (.agg #[.bool d2,.slice B2 m2 k2]) ((0:Rat).den:Int):=by rw [hWF];exact(((((((z2_2.out.one Ks_2.out (i:=0) (x := .slice none 0 0) (y := .slice none 0 0) rfl nu).one (Ks_2.out.set_ 0 (.slice none 0 0)) (i:=1) (x := .slice none 0 0) (y := .slice none 0 0) rfl nu).one ((Ks_2.out.set_ 0 (.slice none 0 0)).set_ 1 (.slice none 0 0)) (i:=2) (x := .slice none 0 0) (y := .slice none 0 0) rfl nu).one (((Kr_2.out.other j0i3 0 (.slice none 0 0)).other j0i3 1 (.slice none 0 0)).other j0i3 2 (.slice none 0 0)) (i:=0) (x := .bool false) (y := .bool b2) rfl nu).one ((((Kr_2.out.other j0i3 0 (.slice none 0 0)).other j0i3 1 (.slice none 0 0)).other j0i3 2 (.slice none 0 0)).set_ 0 (.bool b2)) (i:=1) (x := .slice none 0 0) (y := .slice A2 n2 c2) rfl nu).one (((((Kr_2.out.other j0i3 0 (.slice none 0 0)).other j0i3 1 (.slice none 0 0)).other j0i3 2 (.slice none 0 0)).set_ 0 (.bool b2)).set_ 1 (.slice A2 n2 c2)) (i:=2) (x := .bool false) (y := .bool d2) rfl nu).one ((((((Kr_2.out.other j0i3 0 (.slice none 0 0)).other j0i3 1 (.slice none 0 0)).other j0i3 2 (.slice none 0 0)).set_ 0 (.bool b2)).set_ 1 (.slice A2 n2 c2)).set_ 2 (.bool d2)) (i:=3) (x := .slice none 0 0) (y := .slice B2 m2 k2) rfl nu)
 have HE:Hid (∃vr,(Ending.returned (.tuple #[(.agg #[.slice none 0 0,.slice none 0 0,.slice none 0 0]),(.agg #[.bool b2,.slice A2 n2 c2,.bool d2,.slice B2 m2 k2]),.int .i64 1])) = .returned (.tuple #[.agg #[.slice none 0 0,.slice none 0 0,.slice none 0 0],vr,.int .i64 1])∧IsRat WF vr 0∧Below w.heap.size w WF):=⟨_,rfl,⟨_,_,_,_,rfl,f1,f2⟩,hBF⟩
 clear hWF
 exact bodyPost_ret (v := .tuple #[(.agg #[.slice none 0 0,.slice none 0 0,.slice none 0 0]),(.agg #[.bool b2,.slice A2 n2 c2,.bool d2,.slice B2 m2 k2]),.int .i64 1]) (by simp [results,Tryz.results11,go_sem,e00,e01,e02,e10,e11,e12,e13] <;> omega) rfl HE.out
end Go.Proofs.YtgilnmhejjpleaaGreat
namespace Go.Proofs.YtgilnmhejjpleaaGreat
open Go.RowKit
set_option linter.unusedSimpArgs false
set_option linter.unusedVariables false
attribute [local go_sem ↓] Go.wp_at_zero Go.wp_at_succ
set_option maxRecDepth 100000 in
set_option maxHeartbeats 1000000 in
theorem rsame11 {k l M N:Nat} {w:World} {va vb:Value} {A A':Nat→Nat→Rat} {B B' C C':Nat→Rat}(ha:StdQ true k w va M N A B C)(hb:StdQ true l w vb M N A' B' C')(hA : ∀i,i<M→∀j,j<N→A i j=A' i j)(hB : ∀i,i<M→B i=B' i)(hC : ∀j,j<N→C j=C' j)(hk:k≤100000) :
 Calls Tryz.prog 13 #[va,vb] w fun e w'=>e = .returned (.bool true)∧Below w.heap.size w w':=by
 obtain⟨v1,v2,v3,rfl,a1,a2,a3⟩:=ha
 obtain⟨u1,u2,u3,rfl,b1,b2,b3⟩:=hb
 obtain⟨Aa,ca,rfl,_,_⟩:=a1.len
 obtain⟨Ab,cb,rfl,_,_⟩:=a2.len
 obtain⟨Ac,cc,rfl,_,_⟩:=a3.len
 obtain⟨Aa',ca',rfl,_,_⟩:=b1.len
 obtain⟨Ab',cb',rfl,_,_⟩:=b2.len
 obtain⟨Ac',cc',rfl,_,_⟩:=b3.len
 have a_0:=Lib.hid a1
 have b_0:=Lib.hid a2
 have c_0:=Lib.hid a3
 have d_0:=Lib.hid b1
 have e_0:=Lib.hid b2
 have f_0:=Lib.hid b3
 have HA:=Lib.hid hA
 have HB:=Lib.hid hB
 have HC:=Lib.hid hC
 clear a1 a2 a3 b1 b2 b3 hA hB hC
 go_enter Tryz.func13,Tryz.ntmps13
 go_wp2_with fail
 refine Calls.mono (rtables ((a_0.out.alloc_ _).alloc_ _) ((d_0.out.alloc_ _).alloc_ _) (fun i hi=>rfl) HA.out hk) ?_
 rintro e w1 ⟨rfl,hb⟩
 have hB:=bun (bun (hb))
 have b_1:=Lib.hid (b_0.out.below hB)
 have c_1:=Lib.hid (c_0.out.below hB)
 have e_1:=Lib.hid (e_0.out.below hB)
 have f_1:=Lib.hid (f_0.out.below hB)
 have Kx_1:=Lib.hid (show Blk w1 (w.heap.size) 31 #[.slice Aa M ca,.slice Ab M cb,.slice Ac N cc] from((Blk.new _ _ jupy _ _).alloc_ _).below hb)
 have Kz_1:=Lib.hid (show Blk w1 (w.heap.size+1) 31 #[.slice Aa' M ca',.slice Ab' M cb',.slice Ac' N cc'] from(Blk.new _ _ jupy _ _).below hb)
 have HB_1:=Lib.hid (hB)
 have hs_1:w.heap.size≤w1.heap.size:=HB_1.out.size
 have hz_1:w.heap.size+2≤w1.heap.size := jrv7
 clear hB hb a_0 b_0 c_0 d_0 e_0 f_0
 obtain⟨p10,p11,p12,l1⟩:=Kx_1.out.use3
 obtain⟨p20,p21,p22,l2⟩:=Kz_1.out.use3
 go_wp2_with fail
 refine Calls.mono (rsame b_1.out e_1.out HB.out hk) ?_
 rintro e w2 ⟨rfl,hb⟩
 have hB:=hb
 have c_2:=Lib.hid (c_1.out.below hB)
 have f_2:=Lib.hid (f_1.out.below hB)
 have Kx_2:=Lib.hid (Kx_1.out.below hB)
 have Kz_2:=Lib.hid (Kz_1.out.below hB)
 have HB_2:=Lib.hid (below_trans HB_1.out hB)
 have hs_2:w.heap.size≤w2.heap.size:=HB_2.out.size
 have hz_2:w1.heap.size+0≤w2.heap.size := jrv7
 clear hB hb b_1 c_1 e_1 f_1 Kx_1 Kz_1 HB_1 p10 p11 p12 l1 p20 p21 p22 l2
 obtain⟨p30,p31,p32,l3⟩:=Kx_2.out.use3
 obtain⟨p40,p41,p42,l4⟩:=Kz_2.out.use3
 go_wp2_with fail
 refine Calls.mono (rsame c_2.out f_2.out HC.out hk) ?_
 rintro e w3 ⟨rfl,hb⟩
 have hB:=hb
 have c_3:=Lib.hid (c_2.out.below hB)
 have f_3:=Lib.hid (f_2.out.below hB)
 have Kx_3:=Lib.hid (Kx_2.out.below hB)
 have Kz_3:=Lib.hid (Kz_2.out.below hB)
 have HB_3:=Lib.hid (below_trans HB_2.out hB)
 have hs_3:w.heap.size≤w3.heap.size:=HB_3.out.size
 have hz_3:w2.heap.size+0≤w3.heap.size := jrv7
 clear hB hb c_2 f_2 Kx_2 Kz_2 HB_2 p30 p31 p32 l3 p40 p41 p42 l4
 obtain⟨p50,p51,p52,l5⟩:=Kx_3.out.use3
 obtain⟨p60,p61,p62,l6⟩:=Kz_3.out.use3
 go_wp2
 go_ret
 exact⟨rfl,HB_3.out⟩
end Go.Proofs.YtgilnmhejjpleaaGreat
