/- What a problem that came in reads as. -/
import Derived.Test.YtgilnmhejjpleaaGreatPFb
import Derived.Deep.Strs
namespace Go.Proofs.YtgilnmhejjpleaaGreat
open Go.ChangeShapes Go.WideShapes Go.ChangeAt Go.RowKit
set_option linter.unusedSimpArgs false
set_option linter.unusedVariables false
set_option maxRecDepth 100000
theorem cellsRow6:Tryz.prog.cellsOf 60=6:=by kernel_rfl
theorem cellsLp5:Tryz.prog.cellsOf 26=5:=by kernel_rfl
theorem cellsRows_:Tryz.prog.cellsOf 23=1:=by kernel_rfl
theorem cellsBools_:Tryz.prog.cellsOf 24=1:=by kernel_rfl
theorem cellsBool_:Tryz.prog.cellsOf 4=1:=by kernel_rfl
theorem cellsInt_:Tryz.prog.cellsOf 3=1:=by kernel_rfl
def RowC(w:World)(v:Value)(n:Nat)(X:Nat→RatD)(a b:Nat→Int):Prop := ∃A c,v = .slice A n c∧Fits A n c∧n≤9223372036854775807∧RowAt w A n X∧∀i,i<n→(X i).n≤1→(X i).n'≤1→LimR 1 w (X i).val (a i) (b i)
def RwC(w:World)(x:Rw6)(X:Nat→RatD)(a b:Nat→Int)(ha hb:Int):Prop:=(-9223372036854775808≤x.s∧x.s≤9223372036854775807)∧RowC w (.slice x.A x.n x.c) x.n X a b∧(x.r.n≤1→x.r.n'≤1→LimR 1 w x.r.val ha hb)
def RwsC(w:World)(v:Value)(m:Nat)(Y:Nat→Rw6)(X:Nat→Nat→RatD)(a b:Nat→Nat→Int)(ha hb:Nat→Int):Prop := ∃A c,v = .slice A m c∧Fits A m c∧m≤9223372036854775807∧(∀i,i<m→∃ad,A=some ad∧Rw6At w (ad.add (i*6)) (Y i))∧∀i,i<m→RwC w (Y i) (X i) (a i) (b i) (ha i) (hb i)
def BoolsC(w:World)(v:Value)(n:Nat)(f:Nat→Bool):Prop := ∃A c,v = .slice A n c∧Fits A n c∧n≤9223372036854775807∧∀i,i<n→∃ad,A=some ad∧ad.block<w.heap.size∧w.cell? (ad.add i)=some (.bool (f i))
section
variable {P:Program} {H:Type} {enc:TypeId × Value→H} {w:World} {base:Nat} {spare:Nat→Bool} {held:Bool}
theorem trod_struct5 {t:TypeId} {f0 f1 f2 f3 f4:Field} {fuel:Nat} {cs:List Value} {x:DataW H × List MemPlace}(ht:P.underlying t=some (.struct #[f0,f1,f2,f3,f4]))(h:DataW.trod enc P w base spare held fuel t cs=some x) :
 ∃y0 y1 y2 y3 y4 n,DataW.trod enc P w base spare held n f0.type ((cs.drop f0.offset).take (P.cellsOf f0.type))=some y0∧
  DataW.trod enc P w base spare held n f1.type ((cs.drop f1.offset).take (P.cellsOf f1.type))=some y1∧DataW.trod enc P w base spare held n f2.type ((cs.drop f2.offset).take (P.cellsOf f2.type))=some y2∧
  DataW.trod enc P w base spare held n f3.type ((cs.drop f3.offset).take (P.cellsOf f3.type))=some y3∧DataW.trod enc P w base spare held n f4.type ((cs.drop f4.offset).take (P.cellsOf f4.type))=some y4:=by
 obtain⟨xs,n,_,rfl,hl,hlen,hf⟩:=DataW.trod_struct ht h
 match xs,hlen with
 | [y0,y1,y2,y3,y4],_=>exact⟨y0,y1,y2,y3,y4,n,by simpa using hf 0 f0 rfl,by simpa using hf 1 f1 rfl,by simpa using hf 2 f2 rfl,by simpa using hf 3 f3 rfl,by simpa using hf 4 f4 rfl⟩
end
section
variable {H:Type} {enc:TypeId × Value→H} {W:World} {base n:Nat} {held:Bool} {v:Value} {y:DataW H × List MemPlace}
theorem ratC_trod {c0 c1 c2 c3:Value}(ht:DataW.trod enc Tryz.prog W base (fun _=>true) held n 36 [c0,c1,c2,c3]=some y) :
 ∃ (x:RatD) (a b:Int),c0 = .bool x.b∧c1 = .slice x.A x.n x.c∧c2 = .bool x.b'∧c3 = .slice x.A' x.n' x.c'∧(x.n≤1→x.n'≤1→LimR 1 W x.val a b):=by
 obtain⟨y0,y1,m,_,_,h0,h1⟩:=trod_struct2 Tryz.underlying36 ht
 simp only [cellsRI_,List.drop_zero,List.drop_succ_cons,List.take_succ_cons,List.take_zero] at h0 h1
 obtain⟨b,s,l',c',X,rfl,rfl,hX⟩:=part_open h0
 obtain⟨b',s',l'',c'',Y,rfl,rfl,hY⟩:=part_open h1
 exact⟨⟨b,s,l',c',b',s',l'',c''⟩,X,Y,rfl,rfl,rfl,rfl,fun g g'=>limR_mk (hX.more g) (hY.more g')⟩
theorem rowC_trod(hf:DataW.trod enc Tryz.prog W base (fun _=>true) held n 22 [v]=some y) :
 ∃ (len:Nat) (X:Nat→RatD) (a b:Nat→Int),RowC W v len X a b:=by
 obtain⟨d,p⟩:=y
 rcases DataW.trod_slice Tryz.underlying22 hf with ⟨hcs,_⟩ | ⟨a,l,c,elems,rest,n,_,hcs,_,hb,hl,hm,hlen,hel,_⟩
 ·simp at hcs
  subst hcs
  exact⟨0,fun _=>ratZ,fun _=>0,fun _=>0,none,0,rfl,⟨Nat.le_refl _,fun _=>rfl⟩,by omega,fun i hi=>absurd hi j0i3,fun i hi=>absurd hi j0i3⟩
 ·simp at hcs
  subst hcs
  have each : ∀i,∃t:RatD × Int × Int,i<l→RatAt W (a.add (i*4)) t.1∧(t.1.n≤1→t.1.n'≤1→LimR 1 W t.1.val t.2.1 t.2.2):=fun i=>by
   by_cases hi:i<l
   ·have he:=hel i hi
    obtain⟨y,hy⟩ : ∃y,elems[i]? = some y:=⟨elems[i],List.getElem?_eq_getElem j0i3⟩
    rw [hy,Option.bind_eq_some_iff,cellsR_] at he
    obtain⟨cs,hc,ht⟩:=he
    have hblk:=World.cells?_block hc j0i3
    obtain⟨_,hcl,hcc⟩:=World.cells?_some hc
    obtain⟨c0,c1,c2,c3,rfl⟩ : ∃c0 c1 c2 c3,cs = [c0,c1,c2,c3]:=by
     match cs,hcl with
     | [c0,c1,c2,c3],_=>exact⟨c0,c1,c2,c3,rfl⟩
    have q0:=hcc 0 j0i3
    have q1:=hcc 1 j0i3
    have q2:=hcc 2 j0i3
    have q3:=hcc 3 j0i3
    obtain⟨x,X,Y,rfl,rfl,rfl,rfl,hx⟩:=ratC_trod ht
    refine⟨(x,X,Y),fun _=>⟨⟨hblk,?_,?_,?_,?_⟩,hx⟩⟩
    ·have:(a.add (i*4)).add 0=a.add (i*4):=rfl
     rw [this] at q0
     exact q0
    ·rw [adr_add _ 1 j0i3] at q1;exact q1
    ·rw [adr_add _ 2 j0i3] at q2;exact q2
    ·rw [adr_add _ 3 j0i3] at q3;exact q3
   ·exact⟨(ratZ,0,0),fun h=>absurd h hi⟩
  obtain⟨g,hg⟩:=Classical.axiomOfChoice each
  exact⟨l,fun i=>(g i).1,fun i=>(g i).2.1,fun i=>(g i).2.2,some a,c,rfl,⟨hl,fun e=>by cases e⟩,by simp only [maxLen] at hm;omega,fun i hi=>⟨a,rfl,(hg i hi).1⟩,fun i hi=>(hg i hi).2⟩
theorem rwC_trod {c0 c1 c2 c3 c4 c5:Value}(ht:DataW.trod enc Tryz.prog W base (fun _=>true) held n 60 [c0,c1,c2,c3,c4,c5]=some y) :
 ∃ (x:Rw6) (X:Nat→RatD) (a b:Nat→Int) (ha hb:Int),c0 = .slice x.A x.n x.c∧c1 = .int .i64 x.s∧c2 = .bool x.r.b∧c3 = .slice x.r.A x.r.n x.r.c∧c4 = .bool x.r.b'∧c5 = .slice x.r.A' x.r.n' x.r.c'∧RwC W x X a b ha hb:=by
 obtain⟨y0,y1,y2,m,_,_,h0,h1,h2⟩:=Go.Deep.trod_struct3 Tryz.underlying60 ht
 simp only [cellsRow_,cellsInt_,cellsR_,List.drop_zero,List.drop_succ_cons,List.take_succ_cons,List.take_zero] at h0 h1 h2
 obtain⟨len,X,a,b,hr⟩:=rowC_trod h0
 obtain⟨z,e1,_,f1⟩:=DataW.trod_int Tryz.underlying3 h1
 simp at e1
 subst e1
 obtain⟨x,ha,hb,rfl,rfl,rfl,rfl,hx⟩:=ratC_trod h2
 obtain⟨A,c,rfl,hr'⟩:=id hr
 have b2 : -9223372036854775808≤z∧z≤9223372036854775807:=by simp [Lit.wf,IntKind.min,IntKind.max,IntKind.bits,IntKind.signed] at f1;omega
 exact⟨⟨A,len,c,z,x⟩,X,a,b,ha,hb,rfl,rfl,rfl,rfl,rfl,rfl,b2,hr,hx⟩
theorem rwsC_trod(hf:DataW.trod enc Tryz.prog W base (fun _=>true) held n 23 [v]=some y) :
 ∃ (len:Nat) (Y:Nat→Rw6) (X:Nat→Nat→RatD) (a b:Nat→Nat→Int) (ha hb:Nat→Int),RwsC W v len Y X a b ha hb:=by
 obtain⟨d,p⟩:=y
 rcases DataW.trod_slice Tryz.underlying23 hf with ⟨hcs,_⟩ | ⟨a,l,c,elems,rest,n,_,hcs,_,hb,hl,hm,hlen,hel,_⟩
 ·simp at hcs
  subst hcs
  exact⟨0,fun _=>⟨none,0,0,0,ratZ⟩,fun _ _=>ratZ,fun _ _=>0,fun _ _=>0,fun _=>0,fun _=>0,none,0,rfl,⟨Nat.le_refl _,fun _=>rfl⟩,by omega,fun i hi=>absurd hi j0i3,fun i hi=>absurd hi j0i3⟩
 ·simp at hcs
  subst hcs
  have each : ∀i,∃t:Rw6 × (Nat→RatD) × (Nat→Int) × (Nat→Int) × Int × Int,i<l→Rw6At W (a.add (i*6)) t.1∧RwC W t.1 t.2.1 t.2.2.1 t.2.2.2.1 t.2.2.2.2.1 t.2.2.2.2.2:=fun i=>by
   by_cases hi:i<l
   ·have he:=hel i hi
    obtain⟨y,hy⟩ : ∃y,elems[i]? = some y:=⟨elems[i],List.getElem?_eq_getElem j0i3⟩
    rw [hy,Option.bind_eq_some_iff,cellsRow6] at he
    obtain⟨cs,hc,ht⟩:=he
    have hblk:=World.cells?_block hc j0i3
    obtain⟨_,hcl,hcc⟩:=World.cells?_some hc
    obtain⟨c0,c1,c2,c3,c4,c5,rfl⟩ : ∃c0 c1 c2 c3 c4 c5,cs = [c0,c1,c2,c3,c4,c5]:=by
     match cs,hcl with
     | [c0,c1,c2,c3,c4,c5],_=>exact⟨c0,c1,c2,c3,c4,c5,rfl⟩
    have q0:=hcc 0 j0i3
    have q1:=hcc 1 j0i3
    have q2:=hcc 2 j0i3
    have q3:=hcc 3 j0i3
    have q4:=hcc 4 j0i3
    have q5:=hcc 5 j0i3
    obtain⟨x,X,a',b',ha,hb,rfl,rfl,rfl,rfl,rfl,rfl,hx⟩:=rwC_trod ht
    refine⟨(x,X,a',b',ha,hb),fun _=>⟨⟨hblk,?_,?_,?_,?_,?_,?_⟩,hx⟩⟩
    ·have:(a.add (i*6)).add 0=a.add (i*6):=rfl
     rw [this] at q0
     exact q0
    ·rw [adr_add _ 1 j0i3] at q1;exact q1
    ·rw [adr_add _ 2 j0i3] at q2;exact q2
    ·rw [adr_add _ 3 j0i3] at q3;exact q3
    ·rw [adr_add _ 4 j0i3] at q4;exact q4
    ·rw [adr_add _ 5 j0i3] at q5;exact q5
   ·exact⟨(⟨none,0,0,0,ratZ⟩,fun _=>ratZ,fun _=>0,fun _=>0,0,0),fun h=>absurd h hi⟩
  obtain⟨g,hg⟩:=Classical.axiomOfChoice each
  exact⟨l,fun i=>(g i).1,fun i=>(g i).2.1,fun i=>(g i).2.2.1,fun i=>(g i).2.2.2.1,fun i=>(g i).2.2.2.2.1,fun i=>(g i).2.2.2.2.2,some a,c,rfl,⟨hl,fun e=>by cases e⟩,by simp only [maxLen] at hm;omega,fun i hi=>⟨a,rfl,(hg i hi).1⟩,fun i hi=>(hg i hi).2⟩
theorem boolsC_trod(hf:DataW.trod enc Tryz.prog W base (fun _=>true) held n 24 [v]=some y) :
 ∃ (len:Nat) (f:Nat→Bool),BoolsC W v len f:=by
 obtain⟨d,p⟩:=y
 rcases DataW.trod_slice Tryz.underlying24 hf with ⟨hcs,_⟩ | ⟨a,l,c,elems,rest,n,_,hcs,_,hb,hl,hm,hlen,hel,_⟩
 ·simp at hcs
  subst hcs
  exact⟨0,fun _=>false,none,0,rfl,⟨Nat.le_refl _,fun _=>rfl⟩,by omega,fun i hi=>absurd hi j0i3⟩
 ·simp at hcs
  subst hcs
  have each : ∀i,∃t:Bool,i<l→a.block<W.heap.size∧W.cell? (a.add i)=some (.bool t):=fun i=>by
   by_cases hi:i<l
   ·have he:=hel i hi
    obtain⟨y,hy⟩ : ∃y,elems[i]? = some y:=⟨elems[i],List.getElem?_eq_getElem j0i3⟩
    rw [hy,Option.bind_eq_some_iff,cellsBool_] at he
    obtain⟨cs,hc,ht⟩:=he
    have hblk:=World.cells?_block hc j0i3
    rw [add_block] at hblk
    obtain⟨_,hcl,hcc⟩:=World.cells?_some hc
    obtain⟨c0,rfl⟩ : ∃c0,cs = [c0]:=by
     match cs,hcl with
     | [c0],_=>exact⟨c0,rfl⟩
    have q0:=hcc 0 j0i3
    obtain⟨b,e3,_⟩:=DataW.trod_bool Tryz.underlying4 ht
    simp at e3
    subst e3
    have e00:(a.add (i*1)).add 0=a.add i:=by rw [Nat.mul_one];rfl
    rw [e00] at q0
    exact⟨b,fun _=>⟨hblk,q0⟩⟩
   ·exact⟨false,fun h=>absurd h hi⟩
  obtain⟨g,hg⟩:=Classical.axiomOfChoice each
  exact⟨l,g,some a,c,rfl,⟨hl,fun e=>by cases e⟩,by simp only [maxLen] at hm;omega,fun i hi=>⟨a,rfl,(hg i hi).1,(hg i hi).2⟩⟩
end
theorem lp_open {H:Type} {enc:TypeId × Value→H} {W:World} {base b0:Nat} {held:Bool} {r:Reach} {v:Value} {d:DataW H} {p:List MemPlace}(hv:Value.okWide Tryz.prog W r b0 26 v)(h:DataW.Trod enc Tryz.prog W base (fun _=>true) held 26 v d p) :
 ∃vc vr vl vh vo nc Xc ac bc m Y X a b ha hb nl Xl al bl nh Xh ah bh no f,v = .agg #[vc,vr,vl,vh,vo]∧RowC W vc nc Xc ac bc∧RwsC W vr m Y X a b ha hb∧RowC W vl nl Xl al bl∧RowC W vh nh Xh ah bh∧BoolsC W vo no f:=by
 obtain⟨cs,rfl,hsz⟩:=okWide_struct Tryz.underlying26 hv
 obtain⟨c0,c1,c2,c3,c4,rfl⟩ : ∃c0 c1 c2 c3 c4,cs = #[c0,c1,c2,c3,c4]:=by
  have h5:cs.size=5:=hsz.trans cellsLp5
  obtain⟨l⟩:=cs
  match l,h5 with
  | [c0,c1,c2,c3,c4],_=>exact⟨c0,c1,c2,c3,c4,rfl⟩
 obtain⟨fuel,hf⟩:=h
 obtain⟨y0,y1,y2,y3,y4,m',h0,h1,h2,h3,h4⟩:=trod_struct5 Tryz.underlying26 hf
 simp only [cellsRow_,cellsRows_,cellsBools_,Value.cells,List.drop_zero,List.drop_succ_cons,List.take_succ_cons,List.take_zero] at h0 h1 h2 h3 h4
 obtain⟨nc,Xc,ac,bc,r0⟩:=rowC_trod h0
 obtain⟨m,Y,X,a,b,ha,hb,r1⟩:=rwsC_trod h1
 obtain⟨nl,Xl,al,bl,r2⟩:=rowC_trod h2
 obtain⟨nh,Xh,ah,bh,r3⟩:=rowC_trod h3
 obtain⟨no,f,r4⟩:=boolsC_trod h4
 exact⟨c0,c1,c2,c3,c4,nc,Xc,ac,bc,m,Y,X,a,b,ha,hb,nl,Xl,al,bl,nh,Xh,ah,bh,no,f,rfl,r0,r1,r2,r3,r4⟩
end Go.Proofs.YtgilnmhejjpleaaGreat
namespace Go.Proofs.YtgilnmhejjpleaaGreat
open Go.RowKit
set_option linter.unusedSimpArgs false
set_option linter.unusedVariables false
structure RowY where
 n:Nat
 X:Nat→RatD
 a:Nat→Int
 b:Nat→Int
structure LpY where
 cost:RowY
 m:Nat
 Y:Nat→Rw6
 X:Nat→Nat→RatD
 a:Nat→Nat→Int
 b:Nat→Nat→Int
 ha:Nat→Int
 hb:Nat→Int
 lo:RowY
 hi:RowY
 no:Nat
 op:Nat→Bool
def RowY.row(r:RowY):RowX:=⟨r.n,r.a,r.b⟩
def LpY.lp(D:LpY):LpX:=⟨D.cost.row,D.m,fun i=>⟨⟨(D.Y i).n,D.a i,D.b i⟩,(D.Y i).s,D.ha i,D.hb i⟩,D.lo.row,D.hi.row,D.no,D.op⟩
def LpC(w:World)(v:Value)(D:LpY):Prop := ∃vc vr vl vh vo,v = .agg #[vc,vr,vl,vh,vo]∧RowC w vc D.cost.n D.cost.X D.cost.a D.cost.b∧RwsC w vr D.m D.Y D.X D.a D.b D.ha D.hb∧RowC w vl D.lo.n D.lo.X D.lo.a D.lo.b∧RowC w vh D.hi.n D.hi.X D.hi.a D.hi.b∧BoolsC w vo D.no D.op
def FewL(D:LpY)(N:Nat):Prop:=(FewP D.cost.n D.cost.X N∧FewP D.lo.n D.lo.X N∧FewP D.hi.n D.hi.X N∧D.no≤100∧D.m≤N)∧∀i,i<D.m→FewP (D.Y i).n (D.X i) N∧(D.Y i).r.n≤1∧(D.Y i).r.n'≤1
section
variable {w w':World} {v:Value} {n m N:Nat} {X:Nat→RatD} {a b:Nat→Int}
theorem RowC.rowR(h:RowC w v n X a b):RowR w v n X (fun i=>ratOf (a i) (b i)):=by
 obtain⟨A,c,h0,h1,h2,h3,h4⟩:=h
 exact⟨A,c,h0,h1,h2,h3,fun i hi g g'=>⟨_,_,h4 i hi g g',rfl⟩⟩
theorem RowC.few(h:RowC w v n X a b)(hf:FewP n X N)(hN:N≤1000000):RowN 1 w v ⟨n,a,b⟩:=by
 obtain⟨A,c,h0,h1,h2,h3,h4⟩:=h
 exact⟨A,c,X,h0,h1,Nat.le_trans hf.1 hN,h3,fun i hi=>h4 i hi (hf.2 i hi).1 (hf.2 i hi).2⟩
theorem RowC.below(h:RowC w v n X a b)(hb:Below w.heap.size w w'):RowC w' v n X a b:=by
 obtain⟨A,c,h0,h1,h2,h3,h4⟩:=h
 exact⟨A,c,h0,h1,h2,h3.below hb,fun i hi g g'=>(h4 i hi g g').below hb⟩
theorem BoolsC.below {f:Nat→Bool}(h:BoolsC w v n f)(hb:Below w.heap.size w w'):BoolsC w' v n f:=by
 obtain⟨A,c,h0,h1,h2,h3⟩:=h
 refine⟨A,c,h0,h1,h2,fun i hi=>?_⟩
 obtain⟨ad,e,h4,h5⟩:=h3 i hi
 exact⟨ad,e,Nat.lt_of_lt_of_le h4 hb.size,(hb.cell (p:=ad.add i) j74y).trans h5⟩
theorem RwsC.below {Y:Nat→Rw6} {X:Nat→Nat→RatD} {a b:Nat→Nat→Int} {ha hb:Nat→Int}(h:RwsC w v m Y X a b ha hb)(hw:Below w.heap.size w w'):RwsC w' v m Y X a b ha hb:=by
 obtain⟨A,c,h0,h1,h2,h3,h4⟩:=h
 refine⟨A,c,h0,h1,h2,fun i hi=>?_,fun i hi=>⟨(h4 i hi).1,(h4 i hi).2.1.below hw,fun g g'=>((h4 i hi).2.2 g g').below hw⟩⟩
 obtain⟨ad,e,h5⟩:=h3 i hi
 exact⟨ad,e,h5.below hw⟩
theorem LpC.below {D:LpY}(h:LpC w v D)(hb:Below w.heap.size w w'):LpC w' v D:=by
 obtain⟨vc,vr,vl,vh,vo,h0,h1,h2,h3,h4,h5⟩:=h
 exact⟨vc,vr,vl,vh,vo,h0,h1.below hb,h2.below hb,h3.below hb,h4.below hb,h5.below hb⟩
theorem LpC.few {D:LpY}(h:LpC w v D)(hf:FewL D N)(hN:N≤1000000):LpQ 1 w v D.lp:=by
 obtain⟨vc,vr,vl,vh,vo,h0,h1,⟨A,c,g0,g1,g2,g3,g4⟩,h3,h4,⟨A',c',k0,k1,k2,k3⟩⟩:=h
 refine⟨vc,vr,vl,vh,vo,h0,h1.few hf.1.1 hN,⟨A,c,D.Y,g0,g1,Nat.le_trans hf.1.2.2.2.2 hN,g3,fun i hi=>⟨rfl,(g4 i hi).1,(g4 i hi).2.1.few (hf.2 i hi).1 hN,(g4 i hi).2.2 (hf.2 i hi).2.1 (hf.2 i hi).2.2⟩⟩,h3.few hf.1.2.1 hN,h4.few hf.1.2.2.1 hN,⟨A',c',k0,k1,?_,k3⟩⟩
 show D.no≤1000000
 have:=hf.1.2.2.2.1
 omega
end
end Go.Proofs.YtgilnmhejjpleaaGreat
