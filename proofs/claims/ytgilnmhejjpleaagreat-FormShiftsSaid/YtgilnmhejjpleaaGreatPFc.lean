/- A problem in memory: rows of fractions with their parts, the rows of a problem, and all of it. -/
import Derived.Test.YtgilnmhejjpleaaGreatPZb
import Derived.Deep.RegionHeld3
namespace Go.Proofs.YtgilnmhejjpleaaGreat
open Go.RowKit
set_option linter.unusedSimpArgs false
set_option linter.unusedVariables false
set_option maxRecDepth 100000
theorem j3l4 {P:Prop}(h:P:=by rw [← hW]; exact halloc (Below.refl _ _)):P:=h
theorem jord {P:Prop}(h:P:=by first | exact x_2.out | exact x_2.out.drew_ | exact x_2.out.alloc_ _ | exact (x_2.out.alloc_ _).drew_):P:=h
theorem jsmx {P:Prop}(h:P:=by first | exact o_2.out | exact o_2.out.drew_ | exact o_2.out.alloc_ _ | exact (o_2.out.alloc_ _).drew_):P:=h
structure RowX where
 n:Nat
 a:Nat→Int
 b:Nat→Int
def RowX.q(r:RowX)(i:Nat):Rat:=ratOf (r.a i) (r.b i)
def RowX.mays(r:RowX):Prop := ∀i,i<r.n→0<r.b i
structure RwX where
 coef:RowX
 s:Int
 ha:Int
 hb:Int
def RwX.h(r:RwX):Rat:=ratOf r.ha r.hb
structure LpX where
 cost:RowX
 m:Nat
 row:Nat→RwX
 lo:RowX
 hi:RowX
 no:Nat
 op:Nat→Bool
def RowN(k:Nat)(w:World)(v:Value)(r:RowX):Prop := ∃A c X,v = .slice A r.n c∧Fits A r.n c∧r.n≤1000000∧RowAt w A r.n X∧∀i,i<r.n→LimR k w (X i).val (r.a i) (r.b i)
structure Rw6 where
 A:Option Addr
 n:Nat
 c:Nat
 s:Int
 r:RatD
def rw6L(x:Rw6):List Value := [.slice x.A x.n x.c,.int .i64 x.s] ++ ratL x.r
abbrev Rw6.val(x:Rw6):Value := .agg #[.slice x.A x.n x.c,.int .i64 x.s,.bool x.r.b,.slice x.r.A x.r.n x.r.c,.bool x.r.b',.slice x.r.A' x.r.n' x.r.c']
def Rw6At(w:World)(a:Addr)(x:Rw6):Prop :=
 a.block<w.heap.size∧w.cell? a=some (.slice x.A x.n x.c)∧w.cell? ⟨a.block,a.off+1,none⟩=some (.int .i64 x.s)∧w.cell? ⟨a.block,a.off+2,none⟩=some (.bool x.r.b)∧w.cell? ⟨a.block,a.off+3,none⟩=some (.slice x.r.A x.r.n x.r.c)∧
  w.cell? ⟨a.block,a.off+4,none⟩=some (.bool x.r.b')∧w.cell? ⟨a.block,a.off+5,none⟩=some (.slice x.r.A' x.r.n' x.r.c')
def RwN(k:Nat)(w:World)(x:Rw6)(r:RwX):Prop:=x.s=r.s∧(-9223372036854775808≤r.s∧r.s≤9223372036854775807)∧RowN k w (.slice x.A x.n x.c) r.coef∧LimR k w x.r.val r.ha r.hb
def RwsN(k:Nat)(w:World)(v:Value)(m:Nat)(R:Nat→RwX):Prop := ∃ (A:Option Addr) (c:Nat) (X:Nat→Rw6),v = .slice A m c∧Fits A m c∧m≤1000000∧(∀i,i<m→∃ad,A=some ad∧Rw6At w (ad.add (i*6)) (X i))∧∀i,i<m→RwN k w (X i) (R i)
def BoolsN(w:World)(v:Value)(n:Nat)(f:Nat→Bool):Prop := ∃A c,v = .slice A n c∧Fits A n c∧n≤1000000∧∀i,i<n→∃ad,A=some ad∧ad.block<w.heap.size∧w.cell? (ad.add i)=some (.bool (f i))
def LpQ(k:Nat)(w:World)(v:Value)(p:LpX):Prop := ∃vc vr vl vh vo,v = .agg #[vc,vr,vl,vh,vo]∧RowN k w vc p.cost∧RwsN k w vr p.m p.row∧RowN k w vl p.lo∧RowN k w vh p.hi∧BoolsN w vo p.no p.op
section
variable {k l:Nat} {w w':World} {v:Value} {r:RowX} {m n:Nat} {R:Nat→RwX} {f:Nat→Bool} {p:LpX} {x:Rw6}
theorem RowN.below(h:RowN k w v r)(hb:Below w.heap.size w w'):RowN k w' v r:=by
 obtain⟨A,c,X,h0,h1,h2,h3,h4⟩:=h
 exact⟨A,c,X,h0,h1,h2,h3.below hb,fun i hi=>(h4 i hi).below hb⟩
theorem RowN.more(h:RowN k w v r)(hl:k≤l):RowN l w v r:=by
 obtain⟨A,c,X,h0,h1,h2,h3,h4⟩:=h
 exact⟨A,c,X,h0,h1,h2,h3,fun i hi=>(h4 i hi).more hl⟩
theorem RowN.rowQ(h:RowN k w v r):RowQ false k w v r.n r.q:=by
 obtain⟨A,c,X,h0,h1,h2,h3,h4⟩:=h
 exact⟨A,c,X,h0,h1,h2,h3,fun i hi => .lim ⟨_,_,h4 i hi,rfl⟩⟩
theorem RowN.len(h:RowN k w v r) : ∃A c,v = .slice A r.n c∧r.n≤c∧r.n≤1000000:=by
 obtain⟨A,c,X,rfl,h1,h2,_⟩:=h
 exact⟨A,c,rfl,h1.1,h2⟩
theorem RowN.at_(h:RowN k w v r) {i:Nat}(hi:i<r.n) : ∃ad c x,v = .slice (some ad) r.n c∧r.n≤c∧r.n≤1000000∧RatAt w (ad.add (i*4)) x∧LimR k w x.val (r.a i) (r.b i):=by
 obtain⟨A,c,X,rfl,h1,h2,h3,h4⟩:=h
 obtain⟨ad,rfl,h⟩:=h3 i hi
 exact⟨ad,c,X i,rfl,h1.1,h2,h,h4 i hi⟩
theorem Rw6At.below {a:Addr}(h:Rw6At w a x)(hb:Below w.heap.size w w'):Rw6At w' a x:=by
 obtain⟨h0,h1,h2,h3,h4,h5,h6⟩:=h
 have hk : ∀j,(⟨a.block,a.off+j,none⟩:Addr).block<w.heap.size:=fun j=>h0
 exact⟨Nat.lt_of_lt_of_le h0 hb.size,(hb.cell h0).trans h1,(hb.cell (hk 1)).trans h2,(hb.cell (hk 2)).trans h3,(hb.cell (hk 3)).trans h4,(hb.cell (hk 4)).trans h5,(hb.cell (hk 5)).trans h6⟩
theorem RwN.below {r:RwX}(h:RwN k w x r)(hb:Below w.heap.size w w'):RwN k w' x r:=⟨h.1,h.2.1,h.2.2.1.below hb,h.2.2.2.below hb⟩
theorem RwsN.below(h:RwsN k w v m R)(hb:Below w.heap.size w w'):RwsN k w' v m R:=by
 obtain⟨A,c,X,h0,h1,h2,h3,h4⟩:=h
 refine⟨A,c,X,h0,h1,h2,fun i hi=>?_,fun i hi=>(h4 i hi).below hb⟩
 obtain⟨ad,e,h⟩:=h3 i hi
 exact⟨ad,e,h.below hb⟩
theorem RwsN.len(h:RwsN k w v m R) : ∃A c,v = .slice A m c∧m≤c∧m≤1000000:=by
 obtain⟨A,c,X,rfl,h1,h2,_⟩:=h
 exact⟨A,c,rfl,h1.1,h2⟩
theorem RwsN.at_(h:RwsN k w v m R) {i:Nat}(hi:i<m) : ∃ad c x,v = .slice (some ad) m c∧m≤c∧m≤1000000∧Rw6At w (ad.add (i*6)) x∧RwN k w x (R i):=by
 obtain⟨A,c,X,rfl,h1,h2,h3,h4⟩:=h
 obtain⟨ad,rfl,h⟩:=h3 i hi
 exact⟨ad,c,X i,rfl,h1.1,h2,h,h4 i hi⟩
theorem BoolsN.below(h:BoolsN w v n f)(hb:Below w.heap.size w w'):BoolsN w' v n f:=by
 obtain⟨A,c,h0,h1,h2,h3⟩:=h
 refine⟨A,c,h0,h1,h2,fun i hi=>?_⟩
 obtain⟨ad,e,h4,h5⟩:=h3 i hi
 exact⟨ad,e,Nat.lt_of_lt_of_le h4 hb.size,(hb.cell (p:=ad.add i) j74y).trans h5⟩
theorem BoolsN.len(h:BoolsN w v n f) : ∃A c,v = .slice A n c∧n≤c∧n≤1000000:=by
 obtain⟨A,c,rfl,h1,h2,_⟩:=h
 exact⟨A,c,rfl,h1.1,h2⟩
theorem BoolsN.at_(h:BoolsN w v n f) {i:Nat}(hi:i<n) : ∃ad c,v = .slice (some ad) n c∧n≤c∧n≤1000000∧ad.block<w.heap.size∧w.cell? (ad.add i)=some (.bool (f i)):=by
 obtain⟨A,c,rfl,h1,h2,h3⟩:=h
 obtain⟨ad,rfl,h4,h5⟩:=h3 i hi
 exact⟨ad,c,rfl,h1.1,h2,h4,h5⟩
theorem LpQ.below(h:LpQ k w v p)(hb:Below w.heap.size w w'):LpQ k w' v p:=by
 obtain⟨vc,vr,vl,vh,vo,h0,h1,h2,h3,h4,h5⟩:=h
 exact⟨vc,vr,vl,vh,vo,h0,h1.below hb,h2.below hb,h3.below hb,h4.below hb,h5.below hb⟩
theorem RowN.alloc_(h:RowN k w v r)(o:Obj):RowN k (w.alloc o) v r:=h.below (below_new w o)
theorem RwsN.alloc_(h:RwsN k w v m R)(o:Obj):RwsN k (w.alloc o) v m R:=h.below (below_new w o)
theorem RwN.alloc_ {r:RwX}(h:RwN k w x r)(o:Obj):RwN k (w.alloc o) x r:=h.below (below_new w o)
theorem BoolsN.alloc_(h:BoolsN w v n f)(o:Obj):BoolsN (w.alloc o) v n f:=h.below (below_new w o)
theorem LpQ.alloc_(h:LpQ k w v p)(o:Obj):LpQ k (w.alloc o) v p:=h.below (below_new w o)
theorem LpQ.form(h:LpQ k w v p) : ∃Ac cc Ar cr Al cl Ah ch Ao co,v = .agg #[.slice Ac p.cost.n cc,.slice Ar p.m cr,.slice Al p.lo.n cl,.slice Ah p.hi.n ch,.slice Ao p.no co]∧
 RowN k w (.slice Ac p.cost.n cc) p.cost∧RwsN k w (.slice Ar p.m cr) p.m p.row∧RowN k w (.slice Al p.lo.n cl) p.lo∧RowN k w (.slice Ah p.hi.n ch) p.hi∧BoolsN w (.slice Ao p.no co) p.no p.op∧
 p.cost.n≤1000000∧p.m≤1000000∧p.lo.n≤1000000∧p.hi.n≤1000000∧p.no≤1000000:=by
 obtain⟨vc,vr,vl,vh,vo,rfl,h1,h2,h3,h4,h5⟩:=h
 obtain⟨A1,c1,rfl,_,g1⟩:=h1.len
 obtain⟨A2,c2,rfl,_,g2⟩:=h2.len
 obtain⟨A3,c3,rfl,_,g3⟩:=h3.len
 obtain⟨A4,c4,rfl,_,g4⟩:=h4.len
 obtain⟨A5,c5,rfl,_,g5⟩:=h5.len
 exact⟨A1,c1,A2,c2,A3,c3,A4,c4,A5,c5,rfl,h1,h2,h3,h4,h5,g1,g2,g3,g4,g5⟩
end
def MayX(p:LpX):Prop :=
 (1≤p.cost.n∧p.cost.n≤24∧p.no=p.cost.n∧p.lo.n=p.cost.n∧p.hi.n=p.cost.n∧p.m≤24)∧
 (p.cost.mays∧p.lo.mays∧p.hi.mays)∧
 (∀i,i<p.m→(p.row i).coef.n=p.cost.n∧((p.row i).s=0∨(p.row i).s=1∨(p.row i).s=2)∧(p.row i).coef.mays∧0<(p.row i).hb)∧
 ∀j,j<p.no→p.op j=false→p.lo.q j≤p.hi.q j
open Classical in
noncomputable def mayB(p:LpX):Bool:=decide (MayX p)
theorem mayB_true {p:LpX} : mayB p=true↔MayX p:=by simp [mayB]
theorem mayB_false {p:LpX} : mayB p=false↔¬MayX p:=by simp [mayB]
section
variable {w w':World} {g g':Nat} {t:TypeId} {x0 x1 x2 x3 x4 x5 a b c d e f:Value}
theorem Blk.use1(h:Blk w g t #[x0]):w.cell? ⟨g,0,none⟩=some x0∧g<w.heap.size:=⟨h.cell 0,h.lt⟩
theorem Blk.use3(h:Blk w g t #[x0,x1,x2]):w.cell? ⟨g,0,none⟩=some x0∧w.cell? ⟨g,1,none⟩=some x1∧w.cell? ⟨g,2,none⟩=some x2∧g<w.heap.size:=⟨h.cell 0,h.cell 1,h.cell 2,h.lt⟩
theorem Blk.use5(h:Blk w g t #[x0,x1,x2,x3,x4]):w.cell? ⟨g,0,none⟩=some x0∧w.cell? ⟨g,1,none⟩=some x1∧w.cell? ⟨g,2,none⟩=some x2∧w.cell? ⟨g,3,none⟩=some x3∧w.cell? ⟨g,4,none⟩=some x4∧g<w.heap.size:=⟨h.cell 0,h.cell 1,h.cell 2,h.cell 3,h.cell 4,h.lt⟩
theorem Blk.use6(h:Blk w g t #[x0,x1,x2,x3,x4,x5]):w.cell? ⟨g,0,none⟩=some x0∧w.cell? ⟨g,1,none⟩=some x1∧w.cell? ⟨g,2,none⟩=some x2∧w.cell? ⟨g,3,none⟩=some x3∧w.cell? ⟨g,4,none⟩=some x4∧w.cell? ⟨g,5,none⟩=some x5∧g<w.heap.size:=⟨h.cell 0,h.cell 1,h.cell 2,h.cell 3,h.cell 4,h.cell 5,h.lt⟩
theorem Blk.into1(h:Blk w g t #[x0]):w.frozen? ⟨g,0,none⟩=false:=h.frozen 0
theorem Blk.into3(h:Blk w g t #[x0,x1,x2]):w.frozen? ⟨g,0,none⟩=false∧w.frozen? ⟨g,1,none⟩=false∧w.frozen? ⟨g,2,none⟩=false:=⟨h.frozen 0,h.frozen 1,h.frozen 2⟩
end
end Go.Proofs.YtgilnmhejjpleaaGreat
namespace Go.Proofs.YtgilnmhejjpleaaGreat
open Go.RowKit
set_option linter.unusedSimpArgs false
set_option linter.unusedVariables false
structure ColX where
 v:Int
 r:Int
 u:Int
def cntF(op:Nat→Bool):Nat→Nat
 | 0=>0
 |j+1=>cntF op j+(if op j then 0 else 1)
def endR(p:LpX)(j:Nat):Int:=if p.op j then -1 else ((p.m+cntF p.op j:Nat):Int)
def slkU(s:Int):Int:=if s=2 then -1 else 1
def varL(p:LpX):Nat→List ColX
 | 0 => []
 |j+1=>varL p j ++ [⟨(j:Nat),endR p j,1⟩]
def slkL(p:LpX):Nat→List ColX
 | 0 => []
 |i+1=>slkL p i ++ (if (p.row i).s=1 then [] else [⟨-1,(i:Nat),slkU (p.row i).s⟩])
def endL(p:LpX):Nat→List ColX
 | 0 => []
 |j+1=>endL p j ++ (if p.op j then [] else [⟨-1,endR p j,1⟩])
def colL(p:LpX):List ColX:=varL p p.no ++ slkL p p.m ++ endL p p.no
def inF(p:LpX)(c:ColX)(i:Nat):Rat:=if (i:Int)=c.r then (c.u:Rat) else if 0≤c.v∧i<p.m then (p.row i).coef.q c.v.toNat else 0
def costF(p:LpX)(c:ColX):Rat:=if 0≤c.v then p.cost.q c.v.toNat else 0
def heldR(p:LpX)(i:Nat):Rat:=(p.row i).h - dotF (p.row i).coef.q p.lo.q p.cost.n
def heldM(p:LpX):Nat→List Rat
 | 0 => []
 |i+1=>heldM p i ++ [heldR p i]
def heldE(p:LpX):Nat→List Rat
 | 0 => []
 |j+1=>heldE p j ++ (if p.op j then [] else [p.hi.q j - p.lo.q j])
def heldL(p:LpX):List Rat:=heldM p p.m ++ heldE p p.no
def heldF(p:LpX)(i:Nat):Rat:=(heldL p)[i]?.getD 0
def rowsC(p:LpX):Nat:=p.m+cntF p.op p.no
def colAt(p:LpX)(k:Nat):ColX:=(colL p)[k]?.getD ⟨-1,-1,0⟩
def sgnF(p:LpX)(i:Nat):Rat:=if heldF p i<0 then -1 else 1
def stdA(p:LpX)(i k:Nat):Rat:=sgnF p i*inF p (colAt p k) i
def stdB(p:LpX)(i:Nat):Rat:=sgnF p i*heldF p i
def stdC(p:LpX)(k:Nat):Rat:=costF p (colAt p k)
section
variable {p:LpX}
theorem cntF_le(op:Nat→Bool) : ∀n,cntF op n≤n
 | 0=>Nat.le_refl _
 |n+1=>by
  unfold cntF
  have:=cntF_le op n
  split <;> omega
theorem cntF_mono(op:Nat→Bool) {i j:Nat}(h:i≤j):cntF op i≤cntF op j:=by
 induction j with
 |zero=>obtain rfl:i=0:=by omega
        exact Nat.le_refl _
 |succ j ih =>
  by_cases e:i=j+1
  ·rw [e];exact Nat.le_refl _
  ·have:=ih j0i3
   rw [cntF]
   omega
theorem cntF_lt(op:Nat→Bool) {i j:Nat}(h:i<j)(ho:op i=false):cntF op i<cntF op j:=by
 have:=cntF_mono op (show i+1≤j from h)
 have e:cntF op (i+1)=cntF op i+1:=by simp [cntF,ho]
 omega
theorem varL_len(p:LpX) : ∀n,(varL p n).length=n
 | 0=>rfl
 |n+1=>by rw [varL,List.length_append,varL_len p n];rfl
theorem slkL_len(p:LpX) : ∀n,(slkL p n).length≤n
 | 0=>Nat.le_refl _
 |n+1=>by
  rw [slkL,List.length_append]
  have:=slkL_len p n
  split <;> simp <;> omega
theorem endL_len(p:LpX) : ∀n,(endL p n).length=cntF p.op n
 | 0=>rfl
 |n+1=>by
  rw [endL,List.length_append,endL_len p n,cntF]
  cases p.op n <;> simp
theorem heldM_len(p:LpX) : ∀n,(heldM p n).length=n
 | 0=>rfl
 |n+1=>by rw [heldM,List.length_append,heldM_len p n];rfl
theorem heldE_len(p:LpX) : ∀n,(heldE p n).length=cntF p.op n
 | 0=>rfl
 |n+1=>by
  rw [heldE,List.length_append,heldE_len p n,cntF]
  cases p.op n <;> simp
theorem colL_len(p:LpX):(colL p).length≤p.no+p.m+p.no:=by
 rw [colL,List.length_append,List.length_append,varL_len,endL_len]
 have:=slkL_len p p.m
 have:=cntF_le p.op p.no
 omega
end
end Go.Proofs.YtgilnmhejjpleaaGreat
namespace Go.Proofs.YtgilnmhejjpleaaGreat
open Go.RowKit
attribute [local go_sem ↓] Go.wp_at_zero Go.wp_at_succ
set_option linter.unusedVariables false
theorem qcmp_is {k l:Nat} {w:World} {v v':Value} {x y:Rat}(r:Int)(hr:cmpQ x y=r)(hx:LimQ k w v x)(hy:LimQ l w v' y)(hk:k≤40000)(hl:l≤40000)(h1:1≤k)(h1':1≤l):Calls Tryz.prog 57 #[v,v'] w fun e w'=>e = .returned (.int .i64 r)∧Below w.heap.size w w':=hr▸q_cmp hx hy hk hl h1 h1'
theorem cmpQ_cases(x y:Rat):(x<y∧cmpQ x y = -1)∨(x=y∧cmpQ x y=0)∨(y<x∧cmpQ x y=1):=by
 unfold cmpQ
 by_cases h:x<y
 ·exact .inl ⟨h,by rw [if_pos h]⟩
 ·by_cases h2:x=y
  ·exact .inr (.inl ⟨h2,by rw [if_neg h,if_pos h2]⟩)
  ·refine .inr (.inr ⟨?_,by rw [if_neg h,if_neg h2]⟩)
   have:=Rat.not_lt.1 h
   rcases Rat.le_iff_lt_or_eq.1 this with h3 | h3
   ·exact h3
   ·exact absurd h3.symm h2
theorem pmay_is {k:Nat} {w:World} {v:Value} {X Y:Int} {r:Bool}(hr:decide (0<Y)=r)(h:LimR k w v X Y)(hk:k≤1000000):Calls Tryz.prog 84 #[v] w fun e w'=>e = .returned (.bool r)∧Below w.heap.size w w':=by
 obtain⟨b,A,n,c,b',A',n',c',rfl,ha,hb⟩:=h.form
 by_cases hY:0<Y
 ·rw [← hr,decide_eq_true hY]
  exact may_true _ _ _ _ _ _ _ _ _ k Y hb hk hY
 ·rw [← hr,decide_eq_false hY]
  exact may_false _ _ _ _ _ _ _ _ _ k Y hb hk j0i3
set_option maxRecDepth 100000 in
set_option maxHeartbeats 1000000 in
theorem pzero(w:World) :
 Calls Tryz.prog 34 #[] w fun e w'=>RatPost w w' e 0:=by
 go_enter Tryz.func34,Tryz.ntmps34
 go_wp2_with fail
 refine Calls.mono (of_any 1 _ j0i3 j0i3) ?_
 rintro e w1 ⟨v,rfl,h,hb⟩
 obtain⟨b1,A1,n1,c1,rfl,-,-,h⟩:=h.form
 have hB:=bun (hb)
 have Kr_1:=Lib.hid (show Blk w1 (w.heap.size) 36 #[.bool false,.slice none 0 0,.bool false,.slice none 0 0] from(Blk.new _ _ jupy _ _).below hb)
 have z_1:=Lib.hid (h)
 have HB_1:=Lib.hid (hB)
 have hs_1:w.heap.size≤w1.heap.size:=HB_1.out.size
 have hz_1:w.heap.size+1≤w1.heap.size := jrv7
 clear hB hb
 obtain⟨p10,p11,p12,p13,l1⟩:=Kr_1.out.use4
 obtain⟨r10,r11,r12,r13⟩:=Kr_1.out.into4
 go_wp2
 obtain⟨WF,hWF⟩ : ∃W,W=((((w1.setCell ⟨w.heap.size,0,none⟩ (.bool false)).setCell ⟨w.heap.size,1,none⟩ (.slice none 0 0)).setCell ⟨w.heap.size,2,none⟩ (.bool b1)).setCell ⟨w.heap.size,3,none⟩ (.slice A1 n1 c1)):=⟨_,rfl⟩
 rw [← hWF]
 have kq:Blk WF (w.heap.size) 36 #[.bool false,.slice none 0 0,.bool b1,.slice A1 n1 c1] := jvku
 have hBF:Below w.heap.size w WF:=by rw [hWF];exact Below.set4 (HB_1.out) jvm6
 have f1:IsInt WF (.agg #[.bool b1,.slice A1 n1 c1]) 1 := jgdd
 have HE:Hid (RatPost w WF (Ending.returned (.agg #[.bool false,.slice none 0 0,.bool b1,.slice A1 n1 c1])) 0):=⟨_,rfl,⟨false,_,b1,_,rfl,⟨_,rfl,isNat_nil _⟩,f1⟩,hBF⟩
 obtain⟨e0,e1,e2,e3⟩:=kq.cells4
 clear hWF
 exact bodyPost_ret (v := .agg #[.bool false,.slice none 0 0,.bool b1,.slice A1 n1 c1]) (by simp [results,Tryz.results34,go_sem,e0,e1,e2,e3] <;> omega) rfl HE.out
set_option maxRecDepth 100000 in
set_option maxHeartbeats 1000000 in
theorem pbelow_m(b:Bool)(A:Option Addr)(n c:Nat)(b':Bool)(A':Option Addr)(n' c':Nat)(w:World)(k:Nat)(x:Rat)(hx:LimQ k w (.agg #[.bool b,.slice A n c,.bool b',.slice A' n' c']) x)(hr:cmpQ x 0=(-1))(hk:k≤20000)(h1:1≤k) :
 Calls Tryz.prog 55 #[(.agg #[.bool b,.slice A n c,.bool b',.slice A' n' c'])] w fun e w'=>e = .returned (.bool true)∧Below w.heap.size w w':=by
 have x_0:=Lib.hid hx
 have HR:=Lib.hid hr
 clear hx hr
 go_enter Tryz.func55,Tryz.ntmps55
 go_wp2
 generalize hW:(w.alloc (.cells #[.bool b,.slice A n c,.bool b',.slice A' n' c'] 36))=w1
 have x_1:=Lib.hid (hW▸(x_0.out.alloc_ _))
 have Ka_1:=Lib.hid (show Blk w1 (w.heap.size) 36 #[.bool b,.slice A n c,.bool b',.slice A' n' c'] from jc21)
 have HB_1:=Lib.hid (show Below w.heap.size w w1 from j3l4)
 have hs_1:w.heap.size≤w1.heap.size:=HB_1.out.size
 have hz_1:w.heap.size+1≤w1.heap.size := j59e
 clear hW x_0
 obtain⟨p10,p11,p12,p13,l1⟩:=Ka_1.out.use4
 have tok0:True:=trivial
 have tok1:True:=trivial
 go_region_held3 (fun w'=>w'.cell? ⟨w.heap.size,0,none⟩=some (.bool b)∧w'.cell? ⟨w.heap.size,1,none⟩=some (.slice A n c)∧w'.cell? ⟨w.heap.size,2,none⟩=some (.bool b')∧w'.cell? ⟨w.heap.size,3,none⟩=some (.slice A' n' c')) (first | (refine⟨?_,?_,?_,?_⟩ <;> (first | with_reducible assumption | ((with_reducible refine Eq.trans (cell_drew _ _) ?_);with_reducible assumption) | ((rw [cell_far4 _ _ _ _ _ _ _ _ j0i3]);with_reducible assumption) | ((repeat rw [cell_far2 _ _ _ _ _ _ j0i3]);with_reducible assumption) | go_keep)) | trivial | go_keep)
  (first
   |(go_at_call 34;have _t:=tok0;clear _t tok0;((with_reducible refine Calls.mono (pzero _) ?_));rintro e w2 ⟨v,rfl,h,hb⟩;obtain⟨b2,A2,n2,c2,d2,B2,m2,k2,rfl,-,-,-,-,-⟩:=h.form;have hB:=(show Below w1.heap.size w1 w2 from jfh7);have x_2:=Lib.hid (x_1.out.below hB);have Ka_2:=Lib.hid (Ka_1.out.below hB);have o_2:=Lib.hid (h.limQ (k:=1) (bq_zero j0i3));have HB_2:=Lib.hid (below_trans HB_1.out hB);have hs_2:w.heap.size≤w2.heap.size:=HB_2.out.size;have hz_2:w1.heap.size+0≤w2.heap.size := jrv7;clear hB hb x_1 Ka_1 HB_1 p10 p11 p12 p13 l1;obtain⟨p20,p21,p22,p23,l2⟩:=Ka_2.out.use4)
   |(go_at_call 57;have _t:=tok1;clear _t tok1;((with_reducible refine Calls.mono (qcmp_is (-1) HR.out jord jsmx j0i3 j0i3 h1 j0i3) ?_));rintro e w3 ⟨rfl,hb⟩;have hB:=(show Below w2.heap.size w2 w3 from jfh7);have x_3:=Lib.hid (x_2.out.below hB);have o_3:=Lib.hid (o_2.out.below hB);have Ka_3:=Lib.hid (Ka_2.out.below hB);have HB_3:=Lib.hid (below_trans HB_2.out hB);have hs_3:w.heap.size≤w3.heap.size:=HB_3.out.size;have hz_3:w2.heap.size+0≤w3.heap.size := jrv7;clear hB hb x_2 o_2 Ka_2 HB_2 p20 p21 p22 p23 l2;obtain⟨p30,p31,p32,p33,l3⟩:=Ka_3.out.use4))
 go_wp2
 go_ret
 exact⟨rfl,HB_3.out⟩
set_option maxRecDepth 100000 in
set_option maxHeartbeats 1000000 in
theorem pbelow_z(b:Bool)(A:Option Addr)(n c:Nat)(b':Bool)(A':Option Addr)(n' c':Nat)(w:World)(k:Nat)(x:Rat)(hx:LimQ k w (.agg #[.bool b,.slice A n c,.bool b',.slice A' n' c']) x)(hr:cmpQ x 0=0)(hk:k≤20000)(h1:1≤k) :
 Calls Tryz.prog 55 #[(.agg #[.bool b,.slice A n c,.bool b',.slice A' n' c'])] w fun e w'=>e = .returned (.bool false)∧Below w.heap.size w w':=by
 have x_0:=Lib.hid hx
 have HR:=Lib.hid hr
 clear hx hr
 go_enter Tryz.func55,Tryz.ntmps55
 go_wp2
 generalize hW:(w.alloc (.cells #[.bool b,.slice A n c,.bool b',.slice A' n' c'] 36))=w1
 have x_1:=Lib.hid (hW▸(x_0.out.alloc_ _))
 have Ka_1:=Lib.hid (show Blk w1 (w.heap.size) 36 #[.bool b,.slice A n c,.bool b',.slice A' n' c'] from jc21)
 have HB_1:=Lib.hid (show Below w.heap.size w w1 from j3l4)
 have hs_1:w.heap.size≤w1.heap.size:=HB_1.out.size
 have hz_1:w.heap.size+1≤w1.heap.size := j59e
 clear hW x_0
 obtain⟨p10,p11,p12,p13,l1⟩:=Ka_1.out.use4
 have tok0:True:=trivial
 have tok1:True:=trivial
 go_region_held3 (fun w'=>w'.cell? ⟨w.heap.size,0,none⟩=some (.bool b)∧w'.cell? ⟨w.heap.size,1,none⟩=some (.slice A n c)∧w'.cell? ⟨w.heap.size,2,none⟩=some (.bool b')∧w'.cell? ⟨w.heap.size,3,none⟩=some (.slice A' n' c')) (first | (refine⟨?_,?_,?_,?_⟩ <;> (first | with_reducible assumption | ((with_reducible refine Eq.trans (cell_drew _ _) ?_);with_reducible assumption) | ((rw [cell_far4 _ _ _ _ _ _ _ _ j0i3]);with_reducible assumption) | ((repeat rw [cell_far2 _ _ _ _ _ _ j0i3]);with_reducible assumption) | go_keep)) | trivial | go_keep)
  (first
   |(go_at_call 34;have _t:=tok0;clear _t tok0;((with_reducible refine Calls.mono (pzero _) ?_));rintro e w2 ⟨v,rfl,h,hb⟩;obtain⟨b2,A2,n2,c2,d2,B2,m2,k2,rfl,-,-,-,-,-⟩:=h.form;have hB:=(show Below w1.heap.size w1 w2 from jfh7);have x_2:=Lib.hid (x_1.out.below hB);have Ka_2:=Lib.hid (Ka_1.out.below hB);have o_2:=Lib.hid (h.limQ (k:=1) (bq_zero j0i3));have HB_2:=Lib.hid (below_trans HB_1.out hB);have hs_2:w.heap.size≤w2.heap.size:=HB_2.out.size;have hz_2:w1.heap.size+0≤w2.heap.size := jrv7;clear hB hb x_1 Ka_1 HB_1 p10 p11 p12 p13 l1;obtain⟨p20,p21,p22,p23,l2⟩:=Ka_2.out.use4)
   |(go_at_call 57;have _t:=tok1;clear _t tok1;((with_reducible refine Calls.mono (qcmp_is 0 HR.out jord jsmx j0i3 j0i3 h1 j0i3) ?_));rintro e w3 ⟨rfl,hb⟩;have hB:=(show Below w2.heap.size w2 w3 from jfh7);have x_3:=Lib.hid (x_2.out.below hB);have o_3:=Lib.hid (o_2.out.below hB);have Ka_3:=Lib.hid (Ka_2.out.below hB);have HB_3:=Lib.hid (below_trans HB_2.out hB);have hs_3:w.heap.size≤w3.heap.size:=HB_3.out.size;have hz_3:w2.heap.size+0≤w3.heap.size := jrv7;clear hB hb x_2 o_2 Ka_2 HB_2 p20 p21 p22 p23 l2;obtain⟨p30,p31,p32,p33,l3⟩:=Ka_3.out.use4))
 go_wp2
 go_ret
 exact⟨rfl,HB_3.out⟩
set_option maxRecDepth 100000 in
set_option maxHeartbeats 1000000 in
theorem pbelow_p(b:Bool)(A:Option Addr)(n c:Nat)(b':Bool)(A':Option Addr)(n' c':Nat)(w:World)(k:Nat)(x:Rat)(hx:LimQ k w (.agg #[.bool b,.slice A n c,.bool b',.slice A' n' c']) x)(hr:cmpQ x 0=1)(hk:k≤20000)(h1:1≤k) :
 Calls Tryz.prog 55 #[(.agg #[.bool b,.slice A n c,.bool b',.slice A' n' c'])] w fun e w'=>e = .returned (.bool false)∧Below w.heap.size w w':=by
 have x_0:=Lib.hid hx
 have HR:=Lib.hid hr
 clear hx hr
 go_enter Tryz.func55,Tryz.ntmps55
 go_wp2
 generalize hW:(w.alloc (.cells #[.bool b,.slice A n c,.bool b',.slice A' n' c'] 36))=w1
 have x_1:=Lib.hid (hW▸(x_0.out.alloc_ _))
 have Ka_1:=Lib.hid (show Blk w1 (w.heap.size) 36 #[.bool b,.slice A n c,.bool b',.slice A' n' c'] from jc21)
 have HB_1:=Lib.hid (show Below w.heap.size w w1 from j3l4)
 have hs_1:w.heap.size≤w1.heap.size:=HB_1.out.size
 have hz_1:w.heap.size+1≤w1.heap.size := j59e
 clear hW x_0
 obtain⟨p10,p11,p12,p13,l1⟩:=Ka_1.out.use4
 have tok0:True:=trivial
 have tok1:True:=trivial
 go_region_held3 (fun w'=>w'.cell? ⟨w.heap.size,0,none⟩=some (.bool b)∧w'.cell? ⟨w.heap.size,1,none⟩=some (.slice A n c)∧w'.cell? ⟨w.heap.size,2,none⟩=some (.bool b')∧w'.cell? ⟨w.heap.size,3,none⟩=some (.slice A' n' c')) (first | (refine⟨?_,?_,?_,?_⟩ <;> (first | with_reducible assumption | ((with_reducible refine Eq.trans (cell_drew _ _) ?_);with_reducible assumption) | ((rw [cell_far4 _ _ _ _ _ _ _ _ j0i3]);with_reducible assumption) | ((repeat rw [cell_far2 _ _ _ _ _ _ j0i3]);with_reducible assumption) | go_keep)) | trivial | go_keep)
  (first
   |(go_at_call 34;have _t:=tok0;clear _t tok0;((with_reducible refine Calls.mono (pzero _) ?_));rintro e w2 ⟨v,rfl,h,hb⟩;obtain⟨b2,A2,n2,c2,d2,B2,m2,k2,rfl,-,-,-,-,-⟩:=h.form;have hB:=(show Below w1.heap.size w1 w2 from jfh7);have x_2:=Lib.hid (x_1.out.below hB);have Ka_2:=Lib.hid (Ka_1.out.below hB);have o_2:=Lib.hid (h.limQ (k:=1) (bq_zero j0i3));have HB_2:=Lib.hid (below_trans HB_1.out hB);have hs_2:w.heap.size≤w2.heap.size:=HB_2.out.size;have hz_2:w1.heap.size+0≤w2.heap.size := jrv7;clear hB hb x_1 Ka_1 HB_1 p10 p11 p12 p13 l1;obtain⟨p20,p21,p22,p23,l2⟩:=Ka_2.out.use4)
   |(go_at_call 57;have _t:=tok1;clear _t tok1;((with_reducible refine Calls.mono (qcmp_is 1 HR.out jord jsmx j0i3 j0i3 h1 j0i3) ?_));rintro e w3 ⟨rfl,hb⟩;have hB:=(show Below w2.heap.size w2 w3 from jfh7);have x_3:=Lib.hid (x_2.out.below hB);have o_3:=Lib.hid (o_2.out.below hB);have Ka_3:=Lib.hid (Ka_2.out.below hB);have HB_3:=Lib.hid (below_trans HB_2.out hB);have hs_3:w.heap.size≤w3.heap.size:=HB_3.out.size;have hz_3:w2.heap.size+0≤w3.heap.size := jrv7;clear hB hb x_2 o_2 Ka_2 HB_2 p20 p21 p22 p23 l2;obtain⟨p30,p31,p32,p33,l3⟩:=Ka_3.out.use4))
 go_wp2
 go_ret
 exact⟨rfl,HB_3.out⟩
theorem pbelow_is {k:Nat} {w:World} {v:Value} {q:Rat} {r:Bool}(hr:decide (q<0)=r)(h:LimQ k w v q)(hk:k≤20000)(h1:1≤k):Calls Tryz.prog 55 #[v] w fun e w'=>e = .returned (.bool r)∧Below w.heap.size w w':=by
 obtain⟨⟨b,A,n,c,b',A',n',c'⟩,rfl⟩:=h.parts
 rcases cmpQ_cases q 0 with ⟨h2,h3⟩ | ⟨h2,h3⟩ | ⟨h2,h3⟩
 ·rw [← hr,decide_eq_true h2]
  exact pbelow_m _ _ _ _ _ _ _ _ _ k q h h3 hk h1
 ·rw [← hr,decide_eq_false (by rw [h2];exact Rat.lt_irrefl)]
  exact pbelow_z _ _ _ _ _ _ _ _ _ k q h h3 hk h1
 ·rw [← hr,decide_eq_false (Rat.not_lt.2 (Rat.le_of_lt h2))]
  exact pbelow_p _ _ _ _ _ _ _ _ _ k q h h3 hk h1
set_option maxRecDepth 100000 in
set_option maxHeartbeats 1000000 in
theorem popp0(b:Bool)(A:Option Addr)(n c:Nat)(b':Bool)(A':Option Addr)(n' c':Nat)(w:World)(k:Nat)(x:Rat)(hx:LimQ k w (.agg #[.bool b,.slice A n c,.bool b',.slice A' n' c']) x)(hk:k≤20000)(h1:1≤k) :
 Calls Tryz.prog 72 #[(.agg #[.bool b,.slice A n c,.bool b',.slice A' n' c'])] w fun e w'=>RatPost w w' e (0 - x):=by
 have x_0:=Lib.hid hx
 clear hx
 go_enter Tryz.func72,Tryz.ntmps72
 go_wp2
 generalize hW:((w.alloc (.cells #[.bool b,.slice A n c,.bool b',.slice A' n' c'] 36)).alloc (.cells #[.bool false,.slice none 0 0,.bool false,.slice none 0 0] 36))=w1
 have x_1:=Lib.hid (hW▸((x_0.out.alloc_ _).alloc_ _))
 have Ka_1:=Lib.hid (show Blk w1 (w.heap.size) 36 #[.bool b,.slice A n c,.bool b',.slice A' n' c'] from jtbf)
 have Kr_1:=Lib.hid (show Blk w1 (w.heap.size+1) 36 #[.bool false,.slice none 0 0,.bool false,.slice none 0 0] from jc21)
 have HB_1:=Lib.hid (show Below w.heap.size w w1 from j0v2)
 have hs_1:w.heap.size≤w1.heap.size:=HB_1.out.size
 have hz_1:w.heap.size+2≤w1.heap.size := j59e
 clear hW x_0
 obtain⟨p10,p11,p12,p13,l1⟩:=Ka_1.out.use4
 have tok0:True:=trivial
 have tok1:True:=trivial
 go_region_held3 (fun w'=>w'.cell? ⟨w.heap.size,0,none⟩=some (.bool b)∧w'.cell? ⟨w.heap.size,1,none⟩=some (.slice A n c)∧w'.cell? ⟨w.heap.size,2,none⟩=some (.bool b')∧w'.cell? ⟨w.heap.size,3,none⟩=some (.slice A' n' c')) (first | (refine⟨?_,?_,?_,?_⟩ <;> (first | with_reducible assumption | ((with_reducible refine Eq.trans (cell_drew _ _) ?_);with_reducible assumption) | ((rw [cell_far4 _ _ _ _ _ _ _ _ j0i3]);with_reducible assumption) | ((repeat rw [cell_far2 _ _ _ _ _ _ j0i3]);with_reducible assumption) | go_keep)) | trivial | go_keep)
  (first
   |(go_at_call 34;have _t:=tok0;clear _t tok0;((with_reducible refine Calls.mono (pzero _) ?_));rintro e w2 ⟨v,rfl,h,hb⟩;obtain⟨b2,A2,n2,c2,d2,B2,m2,k2,rfl,-,-,-,-,-⟩:=h.form;have hB:=(show Below w1.heap.size w1 w2 from jfh7);have x_2:=Lib.hid (x_1.out.below hB);have Ka_2:=Lib.hid (Ka_1.out.below hB);have Kr_2:=Lib.hid (Kr_1.out.below hB);have o_2:=Lib.hid (h.limQ (k:=1) (bq_zero j0i3));have HB_2:=Lib.hid (below_trans HB_1.out hB);have hs_2:w.heap.size≤w2.heap.size:=HB_2.out.size;have hz_2:w1.heap.size+0≤w2.heap.size := jrv7;clear hB hb x_1 Ka_1 Kr_1 HB_1 p10 p11 p12 p13 l1;obtain⟨p20,p21,p22,p23,l2⟩:=Ka_2.out.use4)
   |(go_at_call 67;have _t:=tok1;clear _t tok1;((with_reducible refine Calls.mono (q_sub jsmx jord j0i3 j0i3 j0i3 h1) ?_));rintro e w3 ⟨v,rfl,h,hb⟩;obtain⟨b3,A3,n3,c3,d3,B3,m3,k3,rfl,-,-,-,h1,h2⟩:=h.form;have hB:=(show Below w2.heap.size w2 w3 from jfh7);have x_3:=Lib.hid (x_2.out.below hB);have o_3:=Lib.hid (o_2.out.below hB);have Ka_3:=Lib.hid (Ka_2.out.below hB);have Kr_3:=Lib.hid (Kr_2.out.below hB);have z_3:=Lib.hid (h1);have z2_3:=Lib.hid (h2);have HB_3:=Lib.hid (below_trans HB_2.out hB);have hs_3:w.heap.size≤w3.heap.size:=HB_3.out.size;have hz_3:w2.heap.size+0≤w3.heap.size := jrv7;clear hB hb x_2 o_2 Ka_2 Kr_2 HB_2 p20 p21 p22 p23 l2;obtain⟨p30,p31,p32,p33,l3⟩:=Ka_3.out.use4;obtain⟨p40,p41,p42,p43,l4⟩:=Kr_3.out.use4;obtain⟨r40,r41,r42,r43⟩:=Kr_3.out.into4))
 go_wp2
 obtain⟨WF,hWF⟩ : ∃W,W=((((w3.setCell ⟨w.heap.size+1,0,none⟩ (.bool b3)).setCell ⟨w.heap.size+1,1,none⟩ (.slice A3 n3 c3)).setCell ⟨w.heap.size+1,2,none⟩ (.bool d3)).setCell ⟨w.heap.size+1,3,none⟩ (.slice B3 m3 k3)):=⟨_,rfl⟩
 rw [← hWF]
 have kq:Blk WF (w.heap.size+1) 36 #[.bool b3,.slice A3 n3 c3,.bool d3,.slice B3 m3 k3] := js60
 have hBF:Below w.heap.size w WF:=by rw [hWF];exact Below.set4 (HB_3.out) jvm6
 have f1:IsInt WF (.agg #[.bool b3,.slice A3 n3 c3]) (0 - x).num := jcr2
 have f2:IsInt WF (.agg #[.bool d3,.slice B3 m3 k3]) ((0 - x).den:Int) := jjr2
 have HE:Hid (RatPost w WF (Ending.returned (.agg #[.bool b3,.slice A3 n3 c3,.bool d3,.slice B3 m3 k3])) (0 - x)):=⟨_,rfl,⟨_,_,_,_,rfl,f1,f2⟩,hBF⟩
 obtain⟨e0,e1,e2,e3⟩:=kq.cells4
 clear hWF
 exact bodyPost_ret (v := .agg #[.bool b3,.slice A3 n3 c3,.bool d3,.slice B3 m3 k3]) (by simp [results,Tryz.results72,go_sem,e0,e1,e2,e3] <;> omega) rfl HE.out
theorem popp {k:Nat} {w:World} {v:Value} {x:Rat}(h:LimQ k w v x)(hk:k≤20000)(h1:1≤k):Calls Tryz.prog 72 #[v] w fun e w'=>RatPost w w' e (-x):=by
 obtain⟨⟨b,A,n,c,b',A',n',c'⟩,rfl⟩:=h.parts
 have:=popp0 b A n c b' A' n' c' w k x h hk h1
 rw [show(0:Rat) - x = -x by rw [Rat.sub_eq_add_neg,Rat.zero_add]] at this
 exact this
set_option maxRecDepth 100000 in
theorem psense_0(s:Int)(w:World)(h:s=0) :
 Calls Tryz.prog 49 #[.int .i64 s] w fun e w'=>e = .returned (.bool true)∧w'=w:=by
 subst h
 go_enter Tryz.func49,Tryz.ntmps49
 go_wp2
 go_ret
 exact⟨rfl,rfl⟩
set_option maxRecDepth 100000 in
theorem psense_1(s:Int)(w:World)(h:s=1) :
 Calls Tryz.prog 49 #[.int .i64 s] w fun e w'=>e = .returned (.bool true)∧w'=w:=by
 subst h
 go_enter Tryz.func49,Tryz.ntmps49
 go_wp2
 go_ret
 exact⟨rfl,rfl⟩
set_option maxRecDepth 100000 in
theorem psense_2(s:Int)(w:World)(h:s=2) :
 Calls Tryz.prog 49 #[.int .i64 s] w fun e w'=>e = .returned (.bool true)∧w'=w:=by
 subst h
 go_enter Tryz.func49,Tryz.ntmps49
 go_wp2
 go_ret
 exact⟨rfl,rfl⟩
set_option maxRecDepth 100000 in
theorem psense_n(s:Int)(w:World)(h0:s≠0)(h1:s≠1)(h2:s≠2) :
 Calls Tryz.prog 49 #[.int .i64 s] w fun e w'=>e = .returned (.bool false)∧w'=w:=by
 have e0:(s == 0)=false := jd4n
 have e1:(s == 1)=false:=by rw [beq_eq_false_iff_ne];exact h1
 have e2:(s == 2)=false:=by rw [beq_eq_false_iff_ne];exact h2
 go_enter Tryz.func49,Tryz.ntmps49
 go_wp2
 go_ret
 exact⟨by simp,rfl⟩
theorem psense_is {s:Int} {w:World} {r:Bool}(hr:decide (s=0∨s=1∨s=2)=r):Calls Tryz.prog 49 #[.int .i64 s] w fun e w'=>e = .returned (.bool r)∧w'=w:=by
 by_cases h0:s=0
 ·rw [← hr,decide_eq_true (.inl h0)];exact psense_0 s w h0
 ·by_cases h1:s=1
  ·rw [← hr,decide_eq_true (.inr (.inl h1))];exact psense_1 s w h1
  ·by_cases h2:s=2
   ·rw [← hr,decide_eq_true (.inr (.inr h2))];exact psense_2 s w h2
   ·rw [← hr,decide_eq_false j0i3];exact psense_n s w h0 h1 h2
set_option maxRecDepth 100000 in
theorem pslack_2(s:Int)(w:World)(h:s=2) :
 Calls Tryz.prog 70 #[.int .i64 s] w fun e w'=>e = .returned (.int .i64 (-1))∧w'=w:=by
 subst h
 go_enter Tryz.func70,Tryz.ntmps70
 go_wp2
 go_ret
 exact⟨rfl,rfl⟩
set_option maxRecDepth 100000 in
theorem pslack_n(s:Int)(w:World)(h:s≠2) :
 Calls Tryz.prog 70 #[.int .i64 s] w fun e w'=>e = .returned (.int .i64 (1))∧w'=w:=by
 go_enter Tryz.func70,Tryz.ntmps70
 go_wp2
 go_ret
 exact⟨rfl,rfl⟩
theorem pslack(s:Int)(w:World):Calls Tryz.prog 70 #[.int .i64 s] w fun e w'=>e = .returned (.int .i64 (slkU s))∧w'=w:=by
 by_cases h:s=2
 ·rw [show slkU s = -1 by unfold slkU;rw [if_pos h]];exact pslack_2 s w h
 ·rw [show slkU s=1 by unfold slkU;rw [if_neg h]];exact pslack_n s w h
def TabN(k:Nat)(w:World)(v:Value)(m:Nat)(R:Nat→RowX):Prop :=
 ∃A c,v = .slice A m c∧Fits A m c∧m≤1000000∧∀i,i<m→∃ad r,A=some ad∧ad.block<w.heap.size∧w.cell? (ad.add i)=some r∧RowN k w r (R i)
section
variable {k m:Nat} {w w':World} {v:Value} {R:Nat→RowX}
theorem TabN.below(h:TabN k w v m R)(hb:Below w.heap.size w w'):TabN k w' v m R:=by
 obtain⟨A,c,h0,h1,h2,h3⟩:=h
 refine⟨A,c,h0,h1,h2,fun i hi=>?_⟩
 obtain⟨ad,r,e,h4,h5,h6⟩:=h3 i hi
 exact⟨ad,r,e,Nat.lt_of_lt_of_le h4 hb.size,(hb.cell (p:=ad.add i) j74y).trans h5,h6.below hb⟩
theorem TabN.tabQ(h:TabN k w v m R):TabQ false k w v m (fun i=>(R i).n) (fun i=>(R i).q):=by
 obtain⟨A,c,h0,h1,h2,h3⟩:=h
 refine⟨A,c,h0,h1,h2,fun i hi=>?_⟩
 obtain⟨ad,r,e,h4,h5,h6⟩:=h3 i hi
 exact⟨ad,r,e,h4,h5,h6.rowQ⟩
theorem TabN.len(h:TabN k w v m R) : ∃A c,v = .slice A m c∧m≤c∧m≤1000000:=by
 obtain⟨A,c,h0,h1,h2,h3⟩:=h
 exact⟨A,c,h0,h1.1,h2⟩
theorem TabN.at_(h:TabN k w v m R) {i:Nat}(hi:i<m) : ∃ad c A' c',v = .slice (some ad) m c∧m≤1000000∧ad.block<w.heap.size∧w.cell? (ad.add i)=some (.slice A' (R i).n c')∧(R i).n≤c'∧(R i).n≤1000000∧RowN k w (.slice A' (R i).n c') (R i):=by
 obtain⟨A,c,rfl,h1,h2,h3⟩:=h
 obtain⟨ad,r,rfl,h4,h5,h6⟩:=h3 i hi
 obtain⟨A',c',rfl,h7,h8⟩:=h6.len
 exact⟨ad,c,A',c',rfl,h2,h4,h5,h7,h8,h6⟩
end
set_option maxRecDepth 100000 in
set_option maxHeartbeats 2000000 in
theorem pallMay {k m:Nat} {w:World} {v:Value} {R:Nat→RowX}(h:TabN k w v m R)(hk:k≤1000000) :
 Calls Tryz.prog 50 #[v] w fun e w'=>(∃b,e = .returned (.bool b)∧(b=true↔∀i,i<m→(R i).mays))∧Below w.heap.size w w':=by
 obtain⟨A,c,rfl,hc,hm⟩:=h.len
 have H:=Lib.hid h
 clear h
 go_enter Tryz.func50,Tryz.ntmps50
 go_wp2
 go_loopw [9] (fun v9 wr => ∃ (i:Nat),v9 = .int .i64 (i:Nat)∧i≤m∧Below w.heap.size w wr∧∀j,j<i→(R j).mays) (fun v9 _=>m - (intOf v9).toNat)
 case atStart=>exact⟨0,rfl,Nat.zero_le _,Below.refl _ _,fun j hj=>absurd hj j0i3⟩
 case round =>
  obtain⟨i,rfl,hi,hbw,hinv⟩:=hrel
  have HB:=Lib.hid hbw
  have HI:=Lib.hid hinv
  clear hinv hbw
  obtain⟨wo,rfl⟩ : ∃x,x=wr:=⟨_,rfl⟩
  by_cases hlt:i<m
  ·have hi0:(0:Int)≤(i:Int):=by omega
   have hik:(i:Int)<(m:Int) := j0i3
   obtain⟨ad,c1,A',c',e1,_,hb,hcell,hl1,hl2,hr⟩:=(H.out.below HB.out).at_ hlt
   simp only [Value.slice.injEq] at e1
   obtain⟨rfl,_,rfl⟩:=e1
   have HR:=Lib.hid hr
   clear hr
   obtain⟨ni,hni⟩ : ∃x,x=(R i).n:=⟨_,rfl⟩
   rw [← hni] at hcell hl1 hl2
   have HN:=Lib.hid hni
   clear hni
   go_wp2
   go_loopw [15] (fun v15 wr => ∃ (j:Nat),v15 = .int .i64 (j:Nat)∧j≤ni∧Below wo.heap.size wo wr∧∀q,q<j→0<(R i).b q) (fun v15 _=>ni - (intOf v15).toNat)
   case atStart=>exact⟨0,rfl,Nat.zero_le _,Below.refl _ _,fun j hj=>absurd hj j0i3⟩
   case round =>
    obtain⟨j,rfl,hj,hbw,hinv⟩:=hrel
    have HB2:=Lib.hid hbw
    have HI2:=Lib.hid hinv
    clear hinv hbw
    by_cases hlt2:j<ni
    ·have hj0:(0:Int)≤(j:Int):=by omega
     have hjk:(j:Int)<(ni:Int) := j0i3
     obtain⟨bd,c2,⟨xb,xA,xn,xc,xd,xB,xm,xk⟩,e1,_,_,⟨a0,a1,a2,a3,a4⟩,hE⟩:=(HR.out.below HB2.out).at_ (show j<(R i).n by rw [← HN.out];exact hlt2)
     simp only [Value.slice.injEq] at e1
     obtain⟨rfl,_,rfl⟩:=e1
     have HE:=Lib.hid hE
     clear hE
     by_cases hM:0<(R i).b j
     ·go_wp2_with fail
      refine Calls.mono (pmay_is (decide_eq_true hM) (HE.out.alloc_ _) hk) ?_
      rintro e w3 ⟨rfl,hb3⟩
      have HB3:=Lib.hid (below_trans HB2.out (bun hb3))
      clear hb3
      go_wp2
      go_roundw
      case rel=>exact⟨j+1,by go_num,by omega,HB3.out,fun q hq=>by
       by_cases hqj:q=j
       ·subst hqj;exact hM
       ·exact HI2.out q j0i3⟩
      case measure=>simp [intOf];omega
     ·go_wp2_with fail
      refine Calls.mono (pmay_is (decide_eq_false j0i3) (HE.out.alloc_ _) hk) ?_
      rintro e w3 ⟨rfl,hb3⟩
      have HB3:=Lib.hid (below_trans HB.out (below_trans HB2.out (bun hb3)))
      clear hb3
      go_wp2
      go_ret
      exact⟨⟨_,rfl,fun h => j40t,fun h=>absurd (h i hlt j (by rw [← HN.out];exact hlt2)) j0i3⟩,HB3.out⟩
    ·obtain rfl:j=ni:=by omega
     have HB3:=Lib.hid (below_trans HB.out HB2.out)
     go_wp2
     go_roundw
     case rel=>exact⟨i+1,by go_num,by omega,HB3.out,fun q hq=>by
      by_cases hqi:q=i
      ·subst hqi;exact fun j' hj'=>HI2.out j' (by rw [HN.out];exact hj')
      ·exact HI.out q j0i3⟩
     case measure=>simp [intOf];omega
  ·obtain rfl:i=m:=by omega
   go_wp2
   go_ret
   exact⟨⟨_,rfl,fun _=>HI.out,fun _=>rfl⟩,HB.out⟩
theorem pallMay_is {k m:Nat} {w:World} {v:Value} {R:Nat→RowX} {r:Bool}(h:TabN k w v m R)(hk:k≤1000000)(hr:r=true↔∀i,i<m→(R i).mays) :
 Calls Tryz.prog 50 #[v] w fun e w'=>e = .returned (.bool r)∧Below w.heap.size w w':=(pallMay h hk).mono fun e w' ⟨⟨b,e1,h1⟩,h2⟩=>⟨by rw [e1,Bool.eq_iff_iff.2 (h1.trans hr.symm)],h2⟩
end Go.Proofs.YtgilnmhejjpleaaGreat
