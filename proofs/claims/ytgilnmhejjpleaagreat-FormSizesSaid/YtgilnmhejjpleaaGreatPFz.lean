/- A problem in memory: rows of fractions with their parts, the rows of a problem, and all of it. -/
import Derived.Test.YtgilnmhejjpleaaGreatPZb
import Derived.Deep.Strs
namespace Go.Proofs.YtgilnmhejjpleaaGreat
open Go.RowKit
set_option linter.unusedSimpArgs false
set_option linter.unusedVariables false
set_option maxRecDepth 100000
structure RowX where
 n:Nat
 a:Nat→Int
 b:Nat→Int
def RowX.q(r:RowX)(i:Nat):Rat:=ratOf (r.a i) (r.b i)
def RowX.mays(r:RowX):Prop := ∀i,i<r.n→0<r.b i
structure RwX where
 coef:RowX
 s:Int
 ha:Int
 hb:Int
def RwX.h(r:RwX):Rat:=ratOf r.ha r.hb
structure LpX where
 cost:RowX
 m:Nat
 row:Nat→RwX
 lo:RowX
 hi:RowX
 no:Nat
 op:Nat→Bool
def RowN(k:Nat)(w:World)(v:Value)(r:RowX):Prop := ∃A c X,v = .slice A r.n c∧Fits A r.n c∧r.n≤1000000∧RowAt w A r.n X∧∀i,i<r.n→LimR k w (X i).val (r.a i) (r.b i)
structure Rw6 where
 A:Option Addr
 n:Nat
 c:Nat
 s:Int
 r:RatD
abbrev Rw6.val(x:Rw6):Value := .agg #[.slice x.A x.n x.c,.int .i64 x.s,.bool x.r.b,.slice x.r.A x.r.n x.r.c,.bool x.r.b',.slice x.r.A' x.r.n' x.r.c']
def Rw6At(w:World)(a:Addr)(x:Rw6):Prop :=
 a.block<w.heap.size∧w.cell? a=some (.slice x.A x.n x.c)∧w.cell? ⟨a.block,a.off+1,none⟩=some (.int .i64 x.s)∧w.cell? ⟨a.block,a.off+2,none⟩=some (.bool x.r.b)∧w.cell? ⟨a.block,a.off+3,none⟩=some (.slice x.r.A x.r.n x.r.c)∧
  w.cell? ⟨a.block,a.off+4,none⟩=some (.bool x.r.b')∧w.cell? ⟨a.block,a.off+5,none⟩=some (.slice x.r.A' x.r.n' x.r.c')
def RwN(k:Nat)(w:World)(x:Rw6)(r:RwX):Prop:=x.s=r.s∧(-9223372036854775808≤r.s∧r.s≤9223372036854775807)∧RowN k w (.slice x.A x.n x.c) r.coef∧LimR k w x.r.val r.ha r.hb
def RwsN(k:Nat)(w:World)(v:Value)(m:Nat)(R:Nat→RwX):Prop := ∃ (A:Option Addr) (c:Nat) (X:Nat→Rw6),v = .slice A m c∧Fits A m c∧m≤1000000∧(∀i,i<m→∃ad,A=some ad∧Rw6At w (ad.add (i*6)) (X i))∧∀i,i<m→RwN k w (X i) (R i)
def BoolsN(w:World)(v:Value)(n:Nat)(f:Nat→Bool):Prop := ∃A c,v = .slice A n c∧Fits A n c∧n≤1000000∧∀i,i<n→∃ad,A=some ad∧ad.block<w.heap.size∧w.cell? (ad.add i)=some (.bool (f i))
def LpQ(k:Nat)(w:World)(v:Value)(p:LpX):Prop := ∃vc vr vl vh vo,v = .agg #[vc,vr,vl,vh,vo]∧RowN k w vc p.cost∧RwsN k w vr p.m p.row∧RowN k w vl p.lo∧RowN k w vh p.hi∧BoolsN w vo p.no p.op
section
variable {k l:Nat} {w w':World} {v:Value} {r:RowX} {m n:Nat} {R:Nat→RwX} {f:Nat→Bool} {p:LpX} {x:Rw6}
theorem RowN.below(h:RowN k w v r)(hb:Below w.heap.size w w'):RowN k w' v r:=by
 obtain⟨A,c,X,h0,h1,h2,h3,h4⟩:=h
 exact⟨A,c,X,h0,h1,h2,h3.below hb,fun i hi=>(h4 i hi).below hb⟩
theorem RowN.rowQ(h:RowN k w v r):RowQ false k w v r.n r.q:=by
 obtain⟨A,c,X,h0,h1,h2,h3,h4⟩:=h
 exact⟨A,c,X,h0,h1,h2,h3,fun i hi => .lim ⟨_,_,h4 i hi,rfl⟩⟩
theorem RowN.len(h:RowN k w v r) : ∃A c,v = .slice A r.n c∧r.n≤c∧r.n≤1000000:=by
 obtain⟨A,c,X,rfl,h1,h2,_⟩:=h
 exact⟨A,c,rfl,h1.1,h2⟩
theorem RowN.at_(h:RowN k w v r) {i:Nat}(hi:i<r.n) : ∃ad c x,v = .slice (some ad) r.n c∧r.n≤c∧r.n≤1000000∧RatAt w (ad.add (i*4)) x∧LimR k w x.val (r.a i) (r.b i):=by
 obtain⟨A,c,X,rfl,h1,h2,h3,h4⟩:=h
 obtain⟨ad,rfl,h⟩:=h3 i hi
 exact⟨ad,c,X i,rfl,h1.1,h2,h,h4 i hi⟩
theorem Rw6At.below {a:Addr}(h:Rw6At w a x)(hb:Below w.heap.size w w'):Rw6At w' a x:=by
 obtain⟨h0,h1,h2,h3,h4,h5,h6⟩:=h
 have hk : ∀j,(⟨a.block,a.off+j,none⟩:Addr).block<w.heap.size:=fun j=>h0
 exact⟨Nat.lt_of_lt_of_le h0 hb.size,(hb.cell h0).trans h1,(hb.cell (hk 1)).trans h2,(hb.cell (hk 2)).trans h3,(hb.cell (hk 3)).trans h4,(hb.cell (hk 4)).trans h5,(hb.cell (hk 5)).trans h6⟩
theorem RwN.below {r:RwX}(h:RwN k w x r)(hb:Below w.heap.size w w'):RwN k w' x r:=⟨h.1,h.2.1,h.2.2.1.below hb,h.2.2.2.below hb⟩
theorem RwsN.below(h:RwsN k w v m R)(hb:Below w.heap.size w w'):RwsN k w' v m R:=by
 obtain⟨A,c,X,h0,h1,h2,h3,h4⟩:=h
 refine⟨A,c,X,h0,h1,h2,fun i hi=>?_,fun i hi=>(h4 i hi).below hb⟩
 obtain⟨ad,e,h⟩:=h3 i hi
 exact⟨ad,e,h.below hb⟩
theorem RwsN.len(h:RwsN k w v m R) : ∃A c,v = .slice A m c∧m≤c∧m≤1000000:=by
 obtain⟨A,c,X,rfl,h1,h2,_⟩:=h
 exact⟨A,c,rfl,h1.1,h2⟩
theorem RwsN.at_(h:RwsN k w v m R) {i:Nat}(hi:i<m) : ∃ad c x,v = .slice (some ad) m c∧m≤c∧m≤1000000∧Rw6At w (ad.add (i*6)) x∧RwN k w x (R i):=by
 obtain⟨A,c,X,rfl,h1,h2,h3,h4⟩:=h
 obtain⟨ad,rfl,h⟩:=h3 i hi
 exact⟨ad,c,X i,rfl,h1.1,h2,h,h4 i hi⟩
theorem BoolsN.below(h:BoolsN w v n f)(hb:Below w.heap.size w w'):BoolsN w' v n f:=by
 obtain⟨A,c,h0,h1,h2,h3⟩:=h
 refine⟨A,c,h0,h1,h2,fun i hi=>?_⟩
 obtain⟨ad,e,h4,h5⟩:=h3 i hi
 exact⟨ad,e,Nat.lt_of_lt_of_le h4 hb.size,(hb.cell (p:=ad.add i) jb1).trans h5⟩
theorem BoolsN.len(h:BoolsN w v n f) : ∃A c,v = .slice A n c∧n≤c∧n≤1000000:=by
 obtain⟨A,c,rfl,h1,h2,_⟩:=h
 exact⟨A,c,rfl,h1.1,h2⟩
theorem BoolsN.at_(h:BoolsN w v n f) {i:Nat}(hi:i<n) : ∃ad c,v = .slice (some ad) n c∧n≤c∧n≤1000000∧ad.block<w.heap.size∧w.cell? (ad.add i)=some (.bool (f i)):=by
 obtain⟨A,c,rfl,h1,h2,h3⟩:=h
 obtain⟨ad,rfl,h4,h5⟩:=h3 i hi
 exact⟨ad,c,rfl,h1.1,h2,h4,h5⟩
theorem LpQ.below(h:LpQ k w v p)(hb:Below w.heap.size w w'):LpQ k w' v p:=by
 obtain⟨vc,vr,vl,vh,vo,h0,h1,h2,h3,h4,h5⟩:=h
 exact⟨vc,vr,vl,vh,vo,h0,h1.below hb,h2.below hb,h3.below hb,h4.below hb,h5.below hb⟩
theorem RowN.alloc_(h:RowN k w v r)(o:Obj):RowN k (w.alloc o) v r:=h.below (below_new w o)
theorem RwsN.alloc_(h:RwsN k w v m R)(o:Obj):RwsN k (w.alloc o) v m R:=h.below (below_new w o)
theorem RwN.alloc_ {r:RwX}(h:RwN k w x r)(o:Obj):RwN k (w.alloc o) x r:=h.below (below_new w o)
theorem BoolsN.alloc_(h:BoolsN w v n f)(o:Obj):BoolsN (w.alloc o) v n f:=h.below (below_new w o)
theorem LpQ.alloc_(h:LpQ k w v p)(o:Obj):LpQ k (w.alloc o) v p:=h.below (below_new w o)
theorem LpQ.form(h:LpQ k w v p) : ∃Ac cc Ar cr Al cl Ah ch Ao co,v = .agg #[.slice Ac p.cost.n cc,.slice Ar p.m cr,.slice Al p.lo.n cl,.slice Ah p.hi.n ch,.slice Ao p.no co]∧
 RowN k w (.slice Ac p.cost.n cc) p.cost∧RwsN k w (.slice Ar p.m cr) p.m p.row∧RowN k w (.slice Al p.lo.n cl) p.lo∧RowN k w (.slice Ah p.hi.n ch) p.hi∧BoolsN w (.slice Ao p.no co) p.no p.op∧
 p.cost.n≤1000000∧p.m≤1000000∧p.lo.n≤1000000∧p.hi.n≤1000000∧p.no≤1000000:=by
 obtain⟨vc,vr,vl,vh,vo,rfl,h1,h2,h3,h4,h5⟩:=h
 obtain⟨A1,c1,rfl,_,g1⟩:=h1.len
 obtain⟨A2,c2,rfl,_,g2⟩:=h2.len
 obtain⟨A3,c3,rfl,_,g3⟩:=h3.len
 obtain⟨A4,c4,rfl,_,g4⟩:=h4.len
 obtain⟨A5,c5,rfl,_,g5⟩:=h5.len
 exact⟨A1,c1,A2,c2,A3,c3,A4,c4,A5,c5,rfl,h1,h2,h3,h4,h5,g1,g2,g3,g4,g5⟩
end
def MayX(p:LpX):Prop :=
 (1≤p.cost.n∧p.cost.n≤24∧p.no=p.cost.n∧p.lo.n=p.cost.n∧p.hi.n=p.cost.n∧p.m≤24)∧
 (p.cost.mays∧p.lo.mays∧p.hi.mays)∧
 (∀i,i<p.m→(p.row i).coef.n=p.cost.n∧((p.row i).s=0∨(p.row i).s=1∨(p.row i).s=2)∧(p.row i).coef.mays∧0<(p.row i).hb)∧
 ∀j,j<p.no→p.op j=false→p.lo.q j≤p.hi.q j
open Classical in
noncomputable def mayB(p:LpX):Bool:=decide (MayX p)
theorem mayB_true {p:LpX} : mayB p=true↔MayX p:=by simp [mayB]
theorem mayB_false {p:LpX} : mayB p=false↔¬MayX p:=by simp [mayB]
section
variable {w w':World} {g g':Nat} {t:TypeId} {x0 x1 x2 x3 x4 x5 a b c d e f:Value}
theorem Blk.use1(h:Blk w g t #[x0]):w.cell? ⟨g,0,none⟩=some x0∧g<w.heap.size:=⟨h.cell 0,h.lt⟩
theorem Blk.use3(h:Blk w g t #[x0,x1,x2]):w.cell? ⟨g,0,none⟩=some x0∧w.cell? ⟨g,1,none⟩=some x1∧w.cell? ⟨g,2,none⟩=some x2∧g<w.heap.size:=⟨h.cell 0,h.cell 1,h.cell 2,h.lt⟩
theorem Blk.use5(h:Blk w g t #[x0,x1,x2,x3,x4]):w.cell? ⟨g,0,none⟩=some x0∧w.cell? ⟨g,1,none⟩=some x1∧w.cell? ⟨g,2,none⟩=some x2∧w.cell? ⟨g,3,none⟩=some x3∧w.cell? ⟨g,4,none⟩=some x4∧g<w.heap.size:=⟨h.cell 0,h.cell 1,h.cell 2,h.cell 3,h.cell 4,h.lt⟩
theorem Blk.use6(h:Blk w g t #[x0,x1,x2,x3,x4,x5]):w.cell? ⟨g,0,none⟩=some x0∧w.cell? ⟨g,1,none⟩=some x1∧w.cell? ⟨g,2,none⟩=some x2∧w.cell? ⟨g,3,none⟩=some x3∧w.cell? ⟨g,4,none⟩=some x4∧w.cell? ⟨g,5,none⟩=some x5∧g<w.heap.size:=⟨h.cell 0,h.cell 1,h.cell 2,h.cell 3,h.cell 4,h.cell 5,h.lt⟩
theorem Blk.into1(h:Blk w g t #[x0]):w.frozen? ⟨g,0,none⟩=false:=h.frozen 0
theorem Blk.into3(h:Blk w g t #[x0,x1,x2]):w.frozen? ⟨g,0,none⟩=false∧w.frozen? ⟨g,1,none⟩=false∧w.frozen? ⟨g,2,none⟩=false:=⟨h.frozen 0,h.frozen 1,h.frozen 2⟩
end
end Go.Proofs.YtgilnmhejjpleaaGreat
namespace Go.Proofs.YtgilnmhejjpleaaGreat
open Go.RowKit
set_option linter.unusedSimpArgs false
set_option linter.unusedVariables false
structure ColX where
 v:Int
 r:Int
 u:Int
def cntF(op:Nat→Bool):Nat→Nat
 | 0=>0
 |j+1=>cntF op j+(if op j then 0 else 1)
def endR(p:LpX)(j:Nat):Int:=if p.op j then -1 else ((p.m+cntF p.op j:Nat):Int)
def slkU(s:Int):Int:=if s=2 then -1 else 1
def varL(p:LpX):Nat→List ColX
 | 0 => []
 |j+1=>varL p j ++ [⟨(j:Nat),endR p j,1⟩]
def slkL(p:LpX):Nat→List ColX
 | 0 => []
 |i+1=>slkL p i ++ (if (p.row i).s=1 then [] else [⟨-1,(i:Nat),slkU (p.row i).s⟩])
def endL(p:LpX):Nat→List ColX
 | 0 => []
 |j+1=>endL p j ++ (if p.op j then [] else [⟨-1,endR p j,1⟩])
def colL(p:LpX):List ColX:=varL p p.no ++ slkL p p.m ++ endL p p.no
def inF(p:LpX)(c:ColX)(i:Nat):Rat:=if (i:Int)=c.r then (c.u:Rat) else if 0≤c.v∧i<p.m then (p.row i).coef.q c.v.toNat else 0
def costF(p:LpX)(c:ColX):Rat:=if 0≤c.v then p.cost.q c.v.toNat else 0
def heldR(p:LpX)(i:Nat):Rat:=(p.row i).h - dotF (p.row i).coef.q p.lo.q p.cost.n
def heldM(p:LpX):Nat→List Rat
 | 0 => []
 |i+1=>heldM p i ++ [heldR p i]
def heldE(p:LpX):Nat→List Rat
 | 0 => []
 |j+1=>heldE p j ++ (if p.op j then [] else [p.hi.q j - p.lo.q j])
def heldL(p:LpX):List Rat:=heldM p p.m ++ heldE p p.no
def heldF(p:LpX)(i:Nat):Rat:=(heldL p)[i]?.getD 0
def rowsC(p:LpX):Nat:=p.m+cntF p.op p.no
def colAt(p:LpX)(k:Nat):ColX:=(colL p)[k]?.getD ⟨-1,-1,0⟩
def sgnF(p:LpX)(i:Nat):Rat:=if heldF p i<0 then -1 else 1
def stdA(p:LpX)(i k:Nat):Rat:=sgnF p i*inF p (colAt p k) i
def stdB(p:LpX)(i:Nat):Rat:=sgnF p i*heldF p i
def stdC(p:LpX)(k:Nat):Rat:=costF p (colAt p k)
section
variable {p:LpX}
theorem cntF_le(op:Nat→Bool) : ∀n,cntF op n≤n
 | 0=>Nat.le_refl _
 |n+1=>by
  unfold cntF
  have:=cntF_le op n
  split <;> omega
theorem cntF_mono(op:Nat→Bool) {i j:Nat}(h:i≤j):cntF op i≤cntF op j:=by
 induction j with
 |zero=>obtain rfl:i=0:=by omega
        exact Nat.le_refl _
 |succ j ih =>
  by_cases e:i=j+1
  ·rw [e];exact Nat.le_refl _
  ·have:=ih j0a
   rw [cntF]
   omega
theorem cntF_lt(op:Nat→Bool) {i j:Nat}(h:i<j)(ho:op i=false):cntF op i<cntF op j:=by
 have:=cntF_mono op (show i+1≤j from h)
 have e:cntF op (i+1)=cntF op i+1:=by simp [cntF,ho]
 omega
theorem varL_len(p:LpX) : ∀n,(varL p n).length=n
 | 0=>rfl
 |n+1=>by rw [varL,List.length_append,varL_len p n];rfl
theorem slkL_len(p:LpX) : ∀n,(slkL p n).length≤n
 | 0=>Nat.le_refl _
 |n+1=>by
  rw [slkL,List.length_append]
  have:=slkL_len p n
  split <;> simp <;> omega
theorem endL_len(p:LpX) : ∀n,(endL p n).length=cntF p.op n
 | 0=>rfl
 |n+1=>by
  rw [endL,List.length_append,endL_len p n,cntF]
  cases p.op n <;> simp
theorem heldM_len(p:LpX) : ∀n,(heldM p n).length=n
 | 0=>rfl
 |n+1=>by rw [heldM,List.length_append,heldM_len p n];rfl
theorem heldE_len(p:LpX) : ∀n,(heldE p n).length=cntF p.op n
 | 0=>rfl
 |n+1=>by
  rw [heldE,List.length_append,heldE_len p n,cntF]
  cases p.op n <;> simp
theorem colL_len(p:LpX):(colL p).length≤p.no+p.m+p.no:=by
 rw [colL,List.length_append,List.length_append,varL_len,endL_len]
 have:=slkL_len p p.m
 have:=cntF_le p.op p.no
 omega
end
end Go.Proofs.YtgilnmhejjpleaaGreat
namespace Go.Proofs.YtgilnmhejjpleaaGreat
open Go.ChangeShapes Go.WideShapes Go.ChangeAt Go.RowKit
set_option linter.unusedSimpArgs false
set_option linter.unusedVariables false
set_option maxRecDepth 100000
theorem cellsRow6:Tryz.prog.cellsOf 60=6:=by kernel_rfl
theorem cellsLp5:Tryz.prog.cellsOf 26=5:=by kernel_rfl
theorem cellsRows_:Tryz.prog.cellsOf 23=1:=by kernel_rfl
theorem cellsBools_:Tryz.prog.cellsOf 24=1:=by kernel_rfl
theorem cellsBool_:Tryz.prog.cellsOf 4=1:=by kernel_rfl
theorem cellsInt_:Tryz.prog.cellsOf 3=1:=by kernel_rfl
def RowC(w:World)(v:Value)(n:Nat)(X:Nat→RatD)(a b:Nat→Int):Prop := ∃A c,v = .slice A n c∧Fits A n c∧n≤9223372036854775807∧RowAt w A n X∧∀i,i<n→(X i).n≤1→(X i).n'≤1→LimR 1 w (X i).val (a i) (b i)
def RwC(w:World)(x:Rw6)(X:Nat→RatD)(a b:Nat→Int)(ha hb:Int):Prop:=(-9223372036854775808≤x.s∧x.s≤9223372036854775807)∧RowC w (.slice x.A x.n x.c) x.n X a b∧(x.r.n≤1→x.r.n'≤1→LimR 1 w x.r.val ha hb)
def RwsC(w:World)(v:Value)(m:Nat)(Y:Nat→Rw6)(X:Nat→Nat→RatD)(a b:Nat→Nat→Int)(ha hb:Nat→Int):Prop := ∃A c,v = .slice A m c∧Fits A m c∧m≤9223372036854775807∧(∀i,i<m→∃ad,A=some ad∧Rw6At w (ad.add (i*6)) (Y i))∧∀i,i<m→RwC w (Y i) (X i) (a i) (b i) (ha i) (hb i)
def BoolsC(w:World)(v:Value)(n:Nat)(f:Nat→Bool):Prop := ∃A c,v = .slice A n c∧Fits A n c∧n≤9223372036854775807∧∀i,i<n→∃ad,A=some ad∧ad.block<w.heap.size∧w.cell? (ad.add i)=some (.bool (f i))
section
variable {P:Program} {H:Type} {enc:TypeId × Value→H} {w:World} {base:Nat} {spare:Nat→Bool} {held:Bool}
theorem trod_struct5 {t:TypeId} {f0 f1 f2 f3 f4:Field} {fuel:Nat} {cs:List Value} {x:DataW H × List MemPlace}(ht:P.underlying t=some (.struct #[f0,f1,f2,f3,f4]))(h:DataW.trod enc P w base spare held fuel t cs=some x) :
 ∃y0 y1 y2 y3 y4 n,DataW.trod enc P w base spare held n f0.type ((cs.drop f0.offset).take (P.cellsOf f0.type))=some y0∧
  DataW.trod enc P w base spare held n f1.type ((cs.drop f1.offset).take (P.cellsOf f1.type))=some y1∧DataW.trod enc P w base spare held n f2.type ((cs.drop f2.offset).take (P.cellsOf f2.type))=some y2∧
  DataW.trod enc P w base spare held n f3.type ((cs.drop f3.offset).take (P.cellsOf f3.type))=some y3∧DataW.trod enc P w base spare held n f4.type ((cs.drop f4.offset).take (P.cellsOf f4.type))=some y4:=by
 obtain⟨xs,n,_,rfl,hl,hlen,hf⟩:=DataW.trod_struct ht h
 match xs,hlen with
 | [y0,y1,y2,y3,y4],_=>exact⟨y0,y1,y2,y3,y4,n,by simpa using hf 0 f0 rfl,by simpa using hf 1 f1 rfl,by simpa using hf 2 f2 rfl,by simpa using hf 3 f3 rfl,by simpa using hf 4 f4 rfl⟩
end
section
variable {H:Type} {enc:TypeId × Value→H} {W:World} {base n:Nat} {held:Bool} {v:Value} {y:DataW H × List MemPlace}
theorem ratC_trod {c0 c1 c2 c3:Value}(ht:DataW.trod enc Tryz.prog W base (fun _=>true) held n 36 [c0,c1,c2,c3]=some y) :
 ∃ (x:RatD) (a b:Int),c0 = .bool x.b∧c1 = .slice x.A x.n x.c∧c2 = .bool x.b'∧c3 = .slice x.A' x.n' x.c'∧(x.n≤1→x.n'≤1→LimR 1 W x.val a b):=by
 obtain⟨y0,y1,m,_,_,h0,h1⟩:=trod_struct2 Tryz.underlying36 ht
 simp only [cellsRI_,List.drop_zero,List.drop_succ_cons,List.take_succ_cons,List.take_zero] at h0 h1
 obtain⟨b,s,l',c',X,rfl,rfl,hX⟩:=part_open h0
 obtain⟨b',s',l'',c'',Y,rfl,rfl,hY⟩:=part_open h1
 exact⟨⟨b,s,l',c',b',s',l'',c''⟩,X,Y,rfl,rfl,rfl,rfl,fun g g'=>limR_mk (hX.more g) (hY.more g')⟩
theorem rowC_trod(hf:DataW.trod enc Tryz.prog W base (fun _=>true) held n 22 [v]=some y) :
 ∃ (len:Nat) (X:Nat→RatD) (a b:Nat→Int),RowC W v len X a b:=by
 obtain⟨d,p⟩:=y
 rcases DataW.trod_slice Tryz.underlying22 hf with ⟨hcs,_⟩ | ⟨a,l,c,elems,rest,n,_,hcs,_,hb,hl,hm,hlen,hel,_⟩
 ·simp at hcs
  subst hcs
  exact⟨0,fun _=>ratZ,fun _=>0,fun _=>0,none,0,rfl,⟨Nat.le_refl _,fun _=>rfl⟩,by omega,fun i hi=>absurd hi j0a,fun i hi=>absurd hi j0a⟩
 ·simp at hcs
  subst hcs
  have each : ∀i,∃t:RatD × Int × Int,i<l→RatAt W (a.add (i*4)) t.1∧(t.1.n≤1→t.1.n'≤1→LimR 1 W t.1.val t.2.1 t.2.2):=fun i=>by
   by_cases hi:i<l
   ·have he:=hel i hi
    obtain⟨y,hy⟩ : ∃y,elems[i]? = some y:=⟨elems[i],List.getElem?_eq_getElem j0a⟩
    rw [hy,Option.bind_eq_some_iff,cellsR_] at he
    obtain⟨cs,hc,ht⟩:=he
    have hblk:=World.cells?_block hc j0a
    obtain⟨_,hcl,hcc⟩:=World.cells?_some hc
    obtain⟨c0,c1,c2,c3,rfl⟩ : ∃c0 c1 c2 c3,cs = [c0,c1,c2,c3]:=by
     match cs,hcl with
     | [c0,c1,c2,c3],_=>exact⟨c0,c1,c2,c3,rfl⟩
    have q0:=hcc 0 j0a
    have q1:=hcc 1 j0a
    have q2:=hcc 2 j0a
    have q3:=hcc 3 j0a
    obtain⟨x,X,Y,rfl,rfl,rfl,rfl,hx⟩:=ratC_trod ht
    refine⟨(x,X,Y),fun _=>⟨⟨hblk,?_,?_,?_,?_⟩,hx⟩⟩
    ·have:(a.add (i*4)).add 0=a.add (i*4):=rfl
     rw [this] at q0
     exact q0
    ·rw [adr_add _ 1 j0a] at q1;exact q1
    ·rw [adr_add _ 2 j0a] at q2;exact q2
    ·rw [adr_add _ 3 j0a] at q3;exact q3
   ·exact⟨(ratZ,0,0),fun h=>absurd h hi⟩
  obtain⟨g,hg⟩:=Classical.axiomOfChoice each
  exact⟨l,fun i=>(g i).1,fun i=>(g i).2.1,fun i=>(g i).2.2,some a,c,rfl,⟨hl,fun e=>by cases e⟩,by simp only [maxLen] at hm;omega,fun i hi=>⟨a,rfl,(hg i hi).1⟩,fun i hi=>(hg i hi).2⟩
theorem rwC_trod {c0 c1 c2 c3 c4 c5:Value}(ht:DataW.trod enc Tryz.prog W base (fun _=>true) held n 60 [c0,c1,c2,c3,c4,c5]=some y) :
 ∃ (x:Rw6) (X:Nat→RatD) (a b:Nat→Int) (ha hb:Int),c0 = .slice x.A x.n x.c∧c1 = .int .i64 x.s∧c2 = .bool x.r.b∧c3 = .slice x.r.A x.r.n x.r.c∧c4 = .bool x.r.b'∧c5 = .slice x.r.A' x.r.n' x.r.c'∧RwC W x X a b ha hb:=by
 obtain⟨y0,y1,y2,m,_,_,h0,h1,h2⟩:=Go.Deep.trod_struct3 Tryz.underlying60 ht
 simp only [cellsRow_,cellsInt_,cellsR_,List.drop_zero,List.drop_succ_cons,List.take_succ_cons,List.take_zero] at h0 h1 h2
 obtain⟨len,X,a,b,hr⟩:=rowC_trod h0
 obtain⟨z,e1,_,f1⟩:=DataW.trod_int Tryz.underlying3 h1
 simp at e1
 subst e1
 obtain⟨x,ha,hb,rfl,rfl,rfl,rfl,hx⟩:=ratC_trod h2
 obtain⟨A,c,rfl,hr'⟩:=id hr
 have b2 : -9223372036854775808≤z∧z≤9223372036854775807:=by simp [Lit.wf,IntKind.min,IntKind.max,IntKind.bits,IntKind.signed] at f1;omega
 exact⟨⟨A,len,c,z,x⟩,X,a,b,ha,hb,rfl,rfl,rfl,rfl,rfl,rfl,b2,hr,hx⟩
theorem rwsC_trod(hf:DataW.trod enc Tryz.prog W base (fun _=>true) held n 23 [v]=some y) :
 ∃ (len:Nat) (Y:Nat→Rw6) (X:Nat→Nat→RatD) (a b:Nat→Nat→Int) (ha hb:Nat→Int),RwsC W v len Y X a b ha hb:=by
 obtain⟨d,p⟩:=y
 rcases DataW.trod_slice Tryz.underlying23 hf with ⟨hcs,_⟩ | ⟨a,l,c,elems,rest,n,_,hcs,_,hb,hl,hm,hlen,hel,_⟩
 ·simp at hcs
  subst hcs
  exact⟨0,fun _=>⟨none,0,0,0,ratZ⟩,fun _ _=>ratZ,fun _ _=>0,fun _ _=>0,fun _=>0,fun _=>0,none,0,rfl,⟨Nat.le_refl _,fun _=>rfl⟩,by omega,fun i hi=>absurd hi j0a,fun i hi=>absurd hi j0a⟩
 ·simp at hcs
  subst hcs
  have each : ∀i,∃t:Rw6 × (Nat→RatD) × (Nat→Int) × (Nat→Int) × Int × Int,i<l→Rw6At W (a.add (i*6)) t.1∧RwC W t.1 t.2.1 t.2.2.1 t.2.2.2.1 t.2.2.2.2.1 t.2.2.2.2.2:=fun i=>by
   by_cases hi:i<l
   ·have he:=hel i hi
    obtain⟨y,hy⟩ : ∃y,elems[i]? = some y:=⟨elems[i],List.getElem?_eq_getElem j0a⟩
    rw [hy,Option.bind_eq_some_iff,cellsRow6] at he
    obtain⟨cs,hc,ht⟩:=he
    have hblk:=World.cells?_block hc j0a
    obtain⟨_,hcl,hcc⟩:=World.cells?_some hc
    obtain⟨c0,c1,c2,c3,c4,c5,rfl⟩ : ∃c0 c1 c2 c3 c4 c5,cs = [c0,c1,c2,c3,c4,c5]:=by
     match cs,hcl with
     | [c0,c1,c2,c3,c4,c5],_=>exact⟨c0,c1,c2,c3,c4,c5,rfl⟩
    have q0:=hcc 0 j0a
    have q1:=hcc 1 j0a
    have q2:=hcc 2 j0a
    have q3:=hcc 3 j0a
    have q4:=hcc 4 j0a
    have q5:=hcc 5 j0a
    obtain⟨x,X,a',b',ha,hb,rfl,rfl,rfl,rfl,rfl,rfl,hx⟩:=rwC_trod ht
    refine⟨(x,X,a',b',ha,hb),fun _=>⟨⟨hblk,?_,?_,?_,?_,?_,?_⟩,hx⟩⟩
    ·have:(a.add (i*6)).add 0=a.add (i*6):=rfl
     rw [this] at q0
     exact q0
    ·rw [adr_add _ 1 j0a] at q1;exact q1
    ·rw [adr_add _ 2 j0a] at q2;exact q2
    ·rw [adr_add _ 3 j0a] at q3;exact q3
    ·rw [adr_add _ 4 j0a] at q4;exact q4
    ·rw [adr_add _ 5 j0a] at q5;exact q5
   ·exact⟨(⟨none,0,0,0,ratZ⟩,fun _=>ratZ,fun _=>0,fun _=>0,0,0),fun h=>absurd h hi⟩
  obtain⟨g,hg⟩:=Classical.axiomOfChoice each
  exact⟨l,fun i=>(g i).1,fun i=>(g i).2.1,fun i=>(g i).2.2.1,fun i=>(g i).2.2.2.1,fun i=>(g i).2.2.2.2.1,fun i=>(g i).2.2.2.2.2,some a,c,rfl,⟨hl,fun e=>by cases e⟩,by simp only [maxLen] at hm;omega,fun i hi=>⟨a,rfl,(hg i hi).1⟩,fun i hi=>(hg i hi).2⟩
theorem boolsC_trod(hf:DataW.trod enc Tryz.prog W base (fun _=>true) held n 24 [v]=some y) :
 ∃ (len:Nat) (f:Nat→Bool),BoolsC W v len f:=by
 obtain⟨d,p⟩:=y
 rcases DataW.trod_slice Tryz.underlying24 hf with ⟨hcs,_⟩ | ⟨a,l,c,elems,rest,n,_,hcs,_,hb,hl,hm,hlen,hel,_⟩
 ·simp at hcs
  subst hcs
  exact⟨0,fun _=>false,none,0,rfl,⟨Nat.le_refl _,fun _=>rfl⟩,by omega,fun i hi=>absurd hi j0a⟩
 ·simp at hcs
  subst hcs
  have each : ∀i,∃t:Bool,i<l→a.block<W.heap.size∧W.cell? (a.add i)=some (.bool t):=fun i=>by
   by_cases hi:i<l
   ·have he:=hel i hi
    obtain⟨y,hy⟩ : ∃y,elems[i]? = some y:=⟨elems[i],List.getElem?_eq_getElem j0a⟩
    rw [hy,Option.bind_eq_some_iff,cellsBool_] at he
    obtain⟨cs,hc,ht⟩:=he
    have hblk:=World.cells?_block hc j0a
    rw [add_block] at hblk
    obtain⟨_,hcl,hcc⟩:=World.cells?_some hc
    obtain⟨c0,rfl⟩ : ∃c0,cs = [c0]:=by
     match cs,hcl with
     | [c0],_=>exact⟨c0,rfl⟩
    have q0:=hcc 0 j0a
    obtain⟨b,e3,_⟩:=DataW.trod_bool Tryz.underlying4 ht
    simp at e3
    subst e3
    have e00:(a.add (i*1)).add 0=a.add i:=by rw [Nat.mul_one];rfl
    rw [e00] at q0
    exact⟨b,fun _=>⟨hblk,q0⟩⟩
   ·exact⟨false,fun h=>absurd h hi⟩
  obtain⟨g,hg⟩:=Classical.axiomOfChoice each
  exact⟨l,g,some a,c,rfl,⟨hl,fun e=>by cases e⟩,by simp only [maxLen] at hm;omega,fun i hi=>⟨a,rfl,(hg i hi).1,(hg i hi).2⟩⟩
end
theorem lp_open {H:Type} {enc:TypeId × Value→H} {W:World} {base b0:Nat} {held:Bool} {r:Reach} {v:Value} {d:DataW H} {p:List MemPlace}(hv:Value.okWide Tryz.prog W r b0 26 v)(h:DataW.Trod enc Tryz.prog W base (fun _=>true) held 26 v d p) :
 ∃vc vr vl vh vo nc Xc ac bc m Y X a b ha hb nl Xl al bl nh Xh ah bh no f,v = .agg #[vc,vr,vl,vh,vo]∧RowC W vc nc Xc ac bc∧RwsC W vr m Y X a b ha hb∧RowC W vl nl Xl al bl∧RowC W vh nh Xh ah bh∧BoolsC W vo no f:=by
 obtain⟨cs,rfl,hsz⟩:=okWide_struct Tryz.underlying26 hv
 obtain⟨c0,c1,c2,c3,c4,rfl⟩ : ∃c0 c1 c2 c3 c4,cs = #[c0,c1,c2,c3,c4]:=by
  have h5:cs.size=5:=hsz.trans cellsLp5
  obtain⟨l⟩:=cs
  match l,h5 with
  | [c0,c1,c2,c3,c4],_=>exact⟨c0,c1,c2,c3,c4,rfl⟩
 obtain⟨fuel,hf⟩:=h
 obtain⟨y0,y1,y2,y3,y4,m',h0,h1,h2,h3,h4⟩:=trod_struct5 Tryz.underlying26 hf
 simp only [cellsRow_,cellsRows_,cellsBools_,Value.cells,List.drop_zero,List.drop_succ_cons,List.take_succ_cons,List.take_zero] at h0 h1 h2 h3 h4
 obtain⟨nc,Xc,ac,bc,r0⟩:=rowC_trod h0
 obtain⟨m,Y,X,a,b,ha,hb,r1⟩:=rwsC_trod h1
 obtain⟨nl,Xl,al,bl,r2⟩:=rowC_trod h2
 obtain⟨nh,Xh,ah,bh,r3⟩:=rowC_trod h3
 obtain⟨no,f,r4⟩:=boolsC_trod h4
 exact⟨c0,c1,c2,c3,c4,nc,Xc,ac,bc,m,Y,X,a,b,ha,hb,nl,Xl,al,bl,nh,Xh,ah,bh,no,f,rfl,r0,r1,r2,r3,r4⟩
end Go.Proofs.YtgilnmhejjpleaaGreat
