/- Fractions as values: LimR (numbers of few limbs), LimQ (the number that it counts as), LimP (one that may be), IsRat (plain). -/
import Derived.Test.YtgilnmhejjpleaaGreatPLr
import Derived.Test.YtgilnmhejjpleaaGreatPLv
namespace Go.Proofs.YtgilnmhejjpleaaGreat
open Go.RowKit
theorem j5jq {P:Prop}(h:P:=by rw [hWF]; exact z_2.out.other4 Kr_2.out nu nu nu nu):P:=h
theorem jdkc {P:Prop}(h:P:=by rw [hWF]; exact z2_2.out.other4 Kr_2.out nu nu nu nu):P:=h
theorem jgqk {P:Prop}(h:P:=by have h := hb.size; simpa using h):P:=h
theorem jjsh {P:Prop}(h:P:=by simp [results, Tryz.results92, go_sem, e0, e1, e2, e3] <;> omega):P:=h
theorem jvf8 {P:Prop}(h:P:=by rw [hWF]; exact o_1.out.other4 Kr_1.out nu nu nu nu):P:=h
theorem jvku {P:Prop}(h:P:=by rw [hWF]; exact Kr_1.out.own4):P:=h
theorem jvm6 {P:Prop}(h:P:=by first | omega | (simp; omega) | simp):P:=h
theorem jwxb {P:Prop}(h:P:=by rw [hWF]; exact Kr_2.out.own4):P:=h
def LimR(k:Nat)(w:World)(v:Value)(X Y:Int):Prop := ∃b m b' m',v = .agg #[.bool b,m,.bool b',m']∧LimI k w (.agg #[.bool b,m]) X∧LimI k w (.agg #[.bool b',m']) Y
def ratOf(X Y:Int):Rat:=if 0<Y then Rat.divInt X Y else 0
def LimQ(k:Nat)(w:World)(v:Value)(q:Rat):Prop := ∃X Y,LimR k w v X Y∧q=ratOf X Y
def LimP(k:Nat)(w:World)(v:Value)(q:Rat):Prop := ∃X Y,LimR k w v X Y∧0<Y∧q=Rat.divInt X Y
def IsRat(w:World)(v:Value)(q:Rat):Prop := ∃b m b' m',v = .agg #[.bool b,m,.bool b',m']∧IsInt w (.agg #[.bool b,m]) q.num∧IsInt w (.agg #[.bool b',m']) (q.den:Int)
def BQ(k:Nat)(q:Rat):Prop:=q.num.natAbs<4294967296 ^ k∧q.den<4294967296 ^ k
def RatPost(w w':World)(e:Ending)(q:Rat):Prop := ∃v,e = .returned v∧IsRat w' v q∧Below w.heap.size w w'
section
variable {k l:Nat} {w w':World} {v:Value} {X Y:Int} {q p:Rat}
theorem LimR.below(h:LimR k w v X Y)(hb:Below w.heap.size w w'):LimR k w' v X Y:=by
 obtain⟨b,m,b',m',h0,h1,h2⟩:=h
 exact⟨b,m,b',m',h0,h1.below hb,h2.below hb⟩
theorem LimQ.below(h:LimQ k w v q)(hb:Below w.heap.size w w'):LimQ k w' v q:=by
 obtain⟨X,Y,h0,h1⟩:=h
 exact⟨X,Y,h0.below hb,h1⟩
theorem LimP.below(h:LimP k w v q)(hb:Below w.heap.size w w'):LimP k w' v q:=by
 obtain⟨X,Y,h0,h1⟩:=h
 exact⟨X,Y,h0.below hb,h1⟩
theorem IsRat.below(h:IsRat w v q)(hb:Below w.heap.size w w'):IsRat w' v q:=by
 obtain⟨b,m,b',m',h0,h1,h2⟩:=h
 exact⟨b,m,b',m',h0,h1.below hb,h2.below hb⟩
theorem LimR.alloc_(h:LimR k w v X Y)(o:Obj):LimR k (w.alloc o) v X Y:=h.below (below_new w o)
theorem LimQ.alloc_(h:LimQ k w v q)(o:Obj):LimQ k (w.alloc o) v q:=h.below (below_new w o)
theorem IsRat.alloc_(h:IsRat w v q)(o:Obj):IsRat (w.alloc o) v q:=h.below (below_new w o)
theorem LimQ.drew_(h:LimQ k w v q):LimQ k w.drew v q:=h
theorem IsRat.drew_(h:IsRat w v q):IsRat w.drew v q:=h
theorem LimI.form(h:LimI k w v X) : ∃b A n c,v = .agg #[.bool b,.slice A n c]∧LimI k w (.agg #[.bool b,.slice A n c]) X:=by
 obtain⟨b,m,N,rfl,⟨A,n,c,f,rfl,hr⟩,rfl⟩:=h
 exact⟨b,A,n,c,rfl,b,_,N,rfl,⟨A,n,c,f,rfl,hr⟩,rfl⟩
theorem LimR.form(h:LimR k w v X Y) : ∃b A n c b' A' n' c',v = .agg #[.bool b,.slice A n c,.bool b',.slice A' n' c']∧LimI k w (.agg #[.bool b,.slice A n c]) X∧LimI k w (.agg #[.bool b',.slice A' n' c']) Y:=by
 obtain⟨b,m,b',m',rfl,h1,h2⟩:=h
 obtain⟨b1,A,n,c,e,h1⟩:=h1.form
 obtain⟨b2,A',n',c',e',h2⟩:=h2.form
 simp at e e'
 obtain⟨rfl,rfl⟩:=e
 obtain⟨rfl,rfl⟩:=e'
 exact⟨_,A,n,c,_,A',n',c',rfl,h1,h2⟩
theorem limR_mk {b b':Bool} {m m':Value}(h1:LimI k w (.agg #[.bool b,m]) X)(h2:LimI k w (.agg #[.bool b',m']) Y):LimR k w (.agg #[.bool b,m,.bool b',m']) X Y:=⟨b,m,b',m',rfl,h1,h2⟩
theorem LimI.more {k k':Nat} {w:World} {v:Value} {X:Int}(h:LimI k w v X)(hk:k≤k'):LimI k' w v X:=by
 obtain⟨b,m,N,h1,h2,h3⟩:=h
 exact⟨b,m,N,h1,h2.more hk,h3⟩
theorem LimR.more(h:LimR k w v X Y) {k':Nat}(hk:k≤k'):LimR k' w v X Y:=by
 obtain⟨b,m,b',m',h0,h1,h2⟩:=h
 exact⟨b,m,b',m',h0,h1.more hk,h2.more hk⟩
theorem LimR.lt(h:LimR k w v X Y):X.natAbs<4294967296 ^ k∧Y.natAbs<4294967296 ^ k:=by
 obtain⟨b,m,b',m',h0,h1,h2⟩:=h
 exact⟨h1.lt,h2.lt⟩
theorem IsRat.form(h:IsRat w v q) : ∃b A n c b' A' n' c',v = .agg #[.bool b,.slice A n c,.bool b',.slice A' n' c']∧b=decide (q.num<0)∧b'=false∧(0<n↔q.num≠0)∧IsInt w (.agg #[.bool b,.slice A n c]) q.num∧IsInt w (.agg #[.bool b',.slice A' n' c']) (q.den:Int):=by
 obtain⟨b,m,b',m',rfl,h1,h2⟩:=h
 obtain⟨b1,A,n,c,e,e1,e2,h1⟩:=h1.form
 obtain⟨b2,A',n',c',e',e1',e2',h2⟩:=h2.form
 simp at e e'
 obtain⟨rfl,rfl⟩:=e
 obtain⟨rfl,rfl⟩:=e'
 exact⟨_,A,n,c,_,A',n',c',rfl,e1,by rw [e1'];exact decide_eq_false j0i3,e2,h1,h2⟩
theorem IsRat.limR(h:IsRat w v q)(hb:BQ k q):LimR k w v q.num q.den:=by
 obtain⟨b,m,b',m',h0,h1,h2⟩:=h
 exact⟨b,m,b',m',h0,h1.lim hb.1,h2.lim (by have:=hb.2;omega)⟩
theorem den_pos'(q:Rat):(0:Int)<q.den:=by have:=q.den_pos;omega
theorem ratOf_num_den(q:Rat):ratOf q.num q.den=q:=by
 unfold ratOf
 rw [if_pos (den_pos' q)]
 exact Rat.num_divInt_den q
theorem IsRat.limP(h:IsRat w v q)(hb:BQ k q):LimP k w v q:=⟨_,_,h.limR hb,den_pos' q,(Rat.num_divInt_den q).symm⟩
theorem IsRat.limQ(h:IsRat w v q)(hb:BQ k q):LimQ k w v q:=⟨_,_,h.limR hb,(ratOf_num_den q).symm⟩
theorem divInt_parts(X:Int)(hY:0<Y):(Rat.divInt X Y).num*(Int.gcd X Y:Int)=X∧((Rat.divInt X Y).den:Int)*(Int.gcd X Y:Int)=Y∧0<Int.gcd X Y:=by
 have hg:0<Int.gcd X Y:=Int.gcd_pos_of_ne_zero_right _ j0i3
 have hg':Int.gcd Y X=Int.gcd X Y:=Int.gcd_comm _ _
 refine⟨?_,?_,hg⟩
 ·rw [Rat.num_divInt,Int.sign_eq_one_of_pos hY,Int.one_mul,hg']
  exact Int.ediv_mul_cancel (Int.gcd_dvd_left ..)
 ·rw [Rat.den_divInt,if_neg j0i3,hg',← Int.natCast_mul,Nat.div_mul_cancel (by rw [Int.gcd];exact Nat.gcd_dvd_right _ _)]
  omega
theorem divInt_bq {k l:Nat} {X:Int}(hY:0<Y)(h1:X.natAbs<4294967296 ^ k)(h2:Y.natAbs<4294967296 ^ l) {m:Nat}(hk:k≤m)(hl:l≤m):BQ m (Rat.divInt X Y):=by
 obtain⟨e1,e2,hg⟩:=divInt_parts X hY
 have p1:(4294967296:Nat) ^ k≤4294967296 ^ m:=Nat.pow_le_pow_right j0i3 hk
 have p2:(4294967296:Nat) ^ l≤4294967296 ^ m:=Nat.pow_le_pow_right j0i3 hl
 generalize Int.gcd X Y=g at *
 constructor
 ·have:X.natAbs=(Rat.divInt X Y).num.natAbs*g:=by rw [← e1,Int.natAbs_mul,e1];rfl
  have h3:(Rat.divInt X Y).num.natAbs*1≤(Rat.divInt X Y).num.natAbs*g:=Nat.mul_le_mul_left _ hg
  omega
 ·have:Y.natAbs=(Rat.divInt X Y).den*g:=by
   have:((Rat.divInt X Y).den*g:Nat)=Y:=by rw [Int.natCast_mul];exact e2
   omega
  have h3:(Rat.divInt X Y).den*1≤(Rat.divInt X Y).den*g:=Nat.mul_le_mul_left _ hg
  omega
theorem bq_zero(hk:1≤k):BQ k 0:=by
 have:(4294967296:Nat) ^ 1≤4294967296 ^ k:=Nat.pow_le_pow_right j0i3 hk
 refine⟨?_,?_⟩ <;> simp <;> omega
theorem BQ.more(h:BQ k q)(hk:k≤l):BQ l q:=by
 have:(4294967296:Nat) ^ k≤4294967296 ^ l:=Nat.pow_le_pow_right j0i3 hk
 exact⟨Nat.lt_of_lt_of_le h.1 this,Nat.lt_of_lt_of_le h.2 this⟩
theorem LimQ.bq(h:LimQ k w v q)(hk:1≤k):BQ k q:=by
 obtain⟨X,Y,h1,rfl⟩:=h
 unfold ratOf
 split
 ·exact divInt_bq ‹_› h1.lt.1 h1.lt.2 (Nat.le_refl _) (Nat.le_refl _)
 ·exact bq_zero hk
theorem divInt_add {X Y X' Y':Int}(h:0<Y)(h':0<Y'):Rat.divInt X Y+Rat.divInt X' Y'=Rat.divInt (X*Y'+X'*Y) (Y*Y'):=Rat.divInt_add_divInt _ _ j0i3 j0i3
theorem divInt_mul {X Y X' Y':Int} : Rat.divInt X Y*Rat.divInt X' Y'=Rat.divInt (X*X') (Y*Y'):=Rat.divInt_mul_divInt _ _
theorem BQ.add(h:BQ k q)(h':BQ l p) {m:Nat}(hm:k+l+1≤m):BQ m (q+p):=by
 rw [← Rat.num_divInt_den q,← Rat.num_divInt_den p,divInt_add (den_pos' q) (den_pos' p)]
 refine divInt_bq (Int.mul_pos (den_pos' q) (den_pos' p)) (i_add (i_mul h.1 (Y:=(p.den:Int)) h'.2 (k+l) j0i3) (i_mul h'.1 (Y:=(q.den:Int)) h.2 (k+l) j0i3) (k+l+1) j0i3 j0i3) (i_mul (X:=(q.den:Int)) (Y:=(p.den:Int)) h.2 h'.2 (k+l) j0i3) hm j0i3
theorem BQ.mul(h:BQ k q)(h':BQ l p) {m:Nat}(hm:k+l≤m):BQ m (q*p):=by
 rw [← Rat.num_divInt_den q,← Rat.num_divInt_den p,divInt_mul]
 exact divInt_bq (Int.mul_pos (den_pos' q) (den_pos' p)) (i_mul h.1 h'.1 (k+l) j0i3) (i_mul (X:=(q.den:Int)) (Y:=(p.den:Int)) h.2 h'.2 (k+l) j0i3) hm hm
theorem BQ.neg(h:BQ k q):BQ k (-q):=by
 refine⟨?_,?_⟩
 ·rw [Rat.neg_num,Int.natAbs_neg];exact h.1
 ·rw [Rat.neg_den];exact h.2
theorem BQ.sub(h:BQ k q)(h':BQ l p) {m:Nat}(hm:k+l+1≤m):BQ m (q - p):=by rw [Rat.sub_eq_add_neg];exact h.add h'.neg hm
end
theorem bun {w w':World} {o:Obj}(h:Below (w.alloc o).heap.size (w.alloc o) w'):Below w.heap.size w w':=(below_new w o).trans (h.mono jupy)
theorem halloc {w w1:World}(h:Below w.heap.size w w1) {o:Obj} : Below w.heap.size w (w1.alloc o):=h.alloc h.size o
theorem bset {B g i:Nat} {v:Value} {a w:World}(h:Below B a w)(hg:B≤g):Below B a (w.setCell ⟨g,i,none⟩ v):=h.setCell hg _
theorem bundrew {w w':World}(h:Below w.drew.heap.size w.drew w'):Below w.heap.size w w':=(Below.refl _ _).drew.trans h
theorem cell_far4(w:World)(g g' i:Nat)(a b c d:Value)(hg:g≠g'):((((w.setCell ⟨g',0,none⟩ a).setCell ⟨g',1,none⟩ b).setCell ⟨g',2,none⟩ c).setCell ⟨g',3,none⟩ d).cell? ⟨g,i,none⟩=w.cell? ⟨g,i,none⟩:=by
 rw [World.cell?_setCell_far _ _ _ _ (fun e=>hg e.symm),World.cell?_setCell_far _ _ _ _ (fun e=>hg e.symm),World.cell?_setCell_far _ _ _ _ (fun e=>hg e.symm),World.cell?_setCell_far _ _ _ _ (fun e=>hg e.symm)]
section
variable {w:World} {g g':Nat} {t:TypeId} {x0 x1 x2 x3 y0 y1 y2 y3:Value}
theorem Blk.use2(h:Blk w g t #[x0,x1]):w.cell? ⟨g,0,none⟩=some x0∧w.cell? ⟨g,1,none⟩=some x1∧g<w.heap.size:=⟨h.cell 0,h.cell 1,h.lt⟩
theorem Blk.use4(h:Blk w g t #[x0,x1,x2,x3]):w.cell? ⟨g,0,none⟩=some x0∧w.cell? ⟨g,1,none⟩=some x1∧w.cell? ⟨g,2,none⟩=some x2∧w.cell? ⟨g,3,none⟩=some x3∧g<w.heap.size:=⟨h.cell 0,h.cell 1,h.cell 2,h.cell 3,h.lt⟩
theorem Blk.into4(h:Blk w g t #[x0,x1,x2,x3]):w.frozen? ⟨g,0,none⟩=false∧w.frozen? ⟨g,1,none⟩=false∧w.frozen? ⟨g,2,none⟩=false∧w.frozen? ⟨g,3,none⟩=false:=h.frozen4
end
end Go.Proofs.YtgilnmhejjpleaaGreat
namespace Go.Proofs.YtgilnmhejjpleaaGreat
open Go.RowKit
set_option linter.unusedVariables false
def Nu(x:Value):Prop := ∀z,x≠ .int .u32 z
theorem nu_bool(b:Bool):Nu (.bool b):=fun z e=>by cases e
theorem nu_slice(A:Option Addr)(n c:Nat):Nu (.slice A n c):=fun z e=>by cases e
theorem nu_i64(x:Int):Nu (.int .i64 x):=fun z e=>by cases e
class IsNu (x:Value):Prop where out:Nu x
instance (b:Bool):IsNu (.bool b):=⟨nu_bool b⟩
instance (A:Option Addr) (n c:Nat):IsNu (.slice A n c):=⟨nu_slice A n c⟩
instance (x:Int):IsNu (.int .i64 x):=⟨nu_i64 x⟩
theorem nu {x:Value} [h:IsNu x]:Nu x:=h.out
section
variable {k:Nat} {w:World} {A:Option Addr} {n g:Nat} {f:Nat→Nat} {t:TypeId} {v x0 x1 x2 x3 y0 y1 y2 y3:Value} {N:Nat} {X Y:Int} {q:Rat}
theorem Rd.one(h:Rd .u32 w A n f) {cs:Array Value} {i:Nat} {x y:Value}(hk:Blk w g t cs)(hi:cs[i]? = some x)(hx:Nu x):Rd .u32 (w.setCell ⟨g,i,none⟩ y) A n f :=
 h.apart ((hk.cell i).trans hi) hx y
theorem Rd.otherW(h:Rd .u32 w A n f)(hk:Blk w g t #[x0,x1])(n0:Nu x0)(n1:Nu x1):Rd .u32 ((w.setCell ⟨g,0,none⟩ y0).setCell ⟨g,1,none⟩ y1) A n f :=
 (h.one hk (i:=0) rfl n0).one (hk.set_ 0 y0) (i:=1) (x:=x1) rfl n1
theorem Rd.other4(h:Rd .u32 w A n f)(hk:Blk w g t #[x0,x1,x2,x3])(n0:Nu x0)(n1:Nu x1)(n2:Nu x2)(n3:Nu x3):Rd .u32 ((((w.setCell ⟨g,0,none⟩ y0).setCell ⟨g,1,none⟩ y1).setCell ⟨g,2,none⟩ y2).setCell ⟨g,3,none⟩ y3) A n f :=
 (((h.one hk (i:=0) rfl n0).one (hk.set_ 0 y0) (i:=1) (x:=x1) rfl n1).one ((hk.set_ 0 y0).set_ 1 y1) (i:=2) (x:=x2) rfl n2).one (((hk.set_ 0 y0).set_ 1 y1).set_ 2 y2) (i:=3) (x:=x3) rfl n3
theorem Lim.otherW(h:Lim k w v N)(hk:Blk w g t #[x0,x1])(n0:Nu x0)(n1:Nu x1):Lim k ((w.setCell ⟨g,0,none⟩ y0).setCell ⟨g,1,none⟩ y1) v N:=by
 obtain⟨A,n,c,f,h1,h2,h3,h4⟩:=h
 exact⟨A,n,c,f,h1,h2,h3.otherW hk n0 n1,h4⟩
theorem Lim.other4(h:Lim k w v N)(hk:Blk w g t #[x0,x1,x2,x3])(n0:Nu x0)(n1:Nu x1)(n2:Nu x2)(n3:Nu x3):Lim k ((((w.setCell ⟨g,0,none⟩ y0).setCell ⟨g,1,none⟩ y1).setCell ⟨g,2,none⟩ y2).setCell ⟨g,3,none⟩ y3) v N:=by
 obtain⟨A,n,c,f,h1,h2,h3,h4⟩:=h
 exact⟨A,n,c,f,h1,h2,h3.other4 hk n0 n1 n2 n3,h4⟩
theorem IsNat.other4(h:IsNat w v N)(hk:Blk w g t #[x0,x1,x2,x3])(n0:Nu x0)(n1:Nu x1)(n2:Nu x2)(n3:Nu x3):IsNat ((((w.setCell ⟨g,0,none⟩ y0).setCell ⟨g,1,none⟩ y1).setCell ⟨g,2,none⟩ y2).setCell ⟨g,3,none⟩ y3) v N:=by
 obtain⟨A,n,c,f,h1,h2,h3,h4⟩:=h
 exact⟨A,n,c,f,h1,h2,h3.other4 hk n0 n1 n2 n3,h4⟩
theorem Lim.one(h:Lim k w v N) {cs:Array Value} {i:Nat} {x y:Value}(hk:Blk w g t cs)(hi:cs[i]? = some x)(hx:Nu x):Lim k (w.setCell ⟨g,i,none⟩ y) v N:=by
 obtain⟨A,n,c,f,h1,h2,h3,h4⟩:=h
 exact⟨A,n,c,f,h1,h2,h3.one hk hi hx,h4⟩
theorem IsNat.one(h:IsNat w v N) {cs:Array Value} {i:Nat} {x y:Value}(hk:Blk w g t cs)(hi:cs[i]? = some x)(hx:Nu x):IsNat (w.setCell ⟨g,i,none⟩ y) v N:=by
 obtain⟨A,n,c,f,h1,h2,h3,h4⟩:=h
 exact⟨A,n,c,f,h1,h2,h3.one hk hi hx,h4⟩
theorem LimI.one(h:LimI k w v X) {cs:Array Value} {i:Nat} {x y:Value}(hk:Blk w g t cs)(hi:cs[i]? = some x)(hx:Nu x):LimI k (w.setCell ⟨g,i,none⟩ y) v X:=by
 obtain⟨b,m,N,h1,h2,h3⟩:=h
 exact⟨b,m,N,h1,h2.one hk hi hx,h3⟩
theorem LimI.otherW(h:LimI k w v X)(hk:Blk w g t #[x0,x1])(n0:Nu x0)(n1:Nu x1):LimI k ((w.setCell ⟨g,0,none⟩ y0).setCell ⟨g,1,none⟩ y1) v X:=by
 obtain⟨b,m,N,h1,h2,h3⟩:=h
 exact⟨b,m,N,h1,h2.otherW hk n0 n1,h3⟩
theorem LimI.other4(h:LimI k w v X)(hk:Blk w g t #[x0,x1,x2,x3])(n0:Nu x0)(n1:Nu x1)(n2:Nu x2)(n3:Nu x3):LimI k ((((w.setCell ⟨g,0,none⟩ y0).setCell ⟨g,1,none⟩ y1).setCell ⟨g,2,none⟩ y2).setCell ⟨g,3,none⟩ y3) v X:=by
 obtain⟨b,m,N,h1,h2,h3⟩:=h
 exact⟨b,m,N,h1,h2.other4 hk n0 n1 n2 n3,h3⟩
theorem IsInt.one(h:IsInt w v X) {cs:Array Value} {i:Nat} {x y:Value}(hk:Blk w g t cs)(hi:cs[i]? = some x)(hx:Nu x):IsInt (w.setCell ⟨g,i,none⟩ y) v X:=by
 obtain⟨m,h1,h2⟩:=h
 exact⟨m,h1,h2.one hk hi hx⟩
theorem IsInt.other4(h:IsInt w v X)(hk:Blk w g t #[x0,x1,x2,x3])(n0:Nu x0)(n1:Nu x1)(n2:Nu x2)(n3:Nu x3):IsInt ((((w.setCell ⟨g,0,none⟩ y0).setCell ⟨g,1,none⟩ y1).setCell ⟨g,2,none⟩ y2).setCell ⟨g,3,none⟩ y3) v X:=by
 obtain⟨m,h1,h2⟩:=h
 exact⟨m,h1,h2.other4 hk n0 n1 n2 n3⟩
theorem LimR.one(h:LimR k w v X Y) {cs:Array Value} {i:Nat} {x y:Value}(hk:Blk w g t cs)(hi:cs[i]? = some x)(hx:Nu x):LimR k (w.setCell ⟨g,i,none⟩ y) v X Y:=by
 obtain⟨b,m,b',m',h0,h1,h2⟩:=h
 exact⟨b,m,b',m',h0,h1.one hk hi hx,h2.one hk hi hx⟩
theorem LimR.other4(h:LimR k w v X Y)(hk:Blk w g t #[x0,x1,x2,x3])(n0:Nu x0)(n1:Nu x1)(n2:Nu x2)(n3:Nu x3):LimR k ((((w.setCell ⟨g,0,none⟩ y0).setCell ⟨g,1,none⟩ y1).setCell ⟨g,2,none⟩ y2).setCell ⟨g,3,none⟩ y3) v X Y:=by
 obtain⟨b,m,b',m',h0,h1,h2⟩:=h
 exact⟨b,m,b',m',h0,h1.other4 hk n0 n1 n2 n3,h2.other4 hk n0 n1 n2 n3⟩
theorem LimQ.one(h:LimQ k w v q) {cs:Array Value} {i:Nat} {x y:Value}(hk:Blk w g t cs)(hi:cs[i]? = some x)(hx:Nu x):LimQ k (w.setCell ⟨g,i,none⟩ y) v q:=by
 obtain⟨X,Y,h1,h2⟩:=h
 exact⟨X,Y,h1.one hk hi hx,h2⟩
theorem LimP.other4(h:LimP k w v q)(hk:Blk w g t #[x0,x1,x2,x3])(n0:Nu x0)(n1:Nu x1)(n2:Nu x2)(n3:Nu x3):LimP k ((((w.setCell ⟨g,0,none⟩ y0).setCell ⟨g,1,none⟩ y1).setCell ⟨g,2,none⟩ y2).setCell ⟨g,3,none⟩ y3) v q:=by
 obtain⟨X,Y,h1,h2⟩:=h
 exact⟨X,Y,h1.other4 hk n0 n1 n2 n3,h2⟩
theorem IsRat.one(h:IsRat w v q) {cs:Array Value} {i:Nat} {x y:Value}(hk:Blk w g t cs)(hi:cs[i]? = some x)(hx:Nu x):IsRat (w.setCell ⟨g,i,none⟩ y) v q:=by
 obtain⟨b,m,b',m',h0,h1,h2⟩:=h
 exact⟨b,m,b',m',h0,h1.one hk hi hx,h2.one hk hi hx⟩
theorem IsRat.other4(h:IsRat w v q)(hk:Blk w g t #[x0,x1,x2,x3])(n0:Nu x0)(n1:Nu x1)(n2:Nu x2)(n3:Nu x3):IsRat ((((w.setCell ⟨g,0,none⟩ y0).setCell ⟨g,1,none⟩ y1).setCell ⟨g,2,none⟩ y2).setCell ⟨g,3,none⟩ y3) v q:=by
 obtain⟨b,m,b',m',h0,h1,h2⟩:=h
 exact⟨b,m,b',m',h0,h1.other4 hk n0 n1 n2 n3,h2.other4 hk n0 n1 n2 n3⟩
end
theorem Blk.cells2 {w:World} {g:Nat} {t:TypeId} {x0 x1:Value}(h:Blk w g t #[x0,x1]):w.cell? ⟨g,0,none⟩=some x0∧w.cell? ⟨g,1,none⟩=some x1:=⟨h.cell 0,h.cell 1⟩
theorem Blk.into2 {w:World} {g:Nat} {t:TypeId} {x0 x1:Value}(h:Blk w g t #[x0,x1]):w.frozen? ⟨g,0,none⟩=false∧w.frozen? ⟨g,1,none⟩=false:=⟨h.frozen 0,h.frozen 1⟩
set_option maxRecDepth 100000 in
set_option maxHeartbeats 1000000 in
theorem zero_any(w:World) :
 Calls Tryz.prog 113 #[] w fun e w'=>RatPost w w' e 0:=by
 go_enter Tryz.func113,Tryz.ntmps113
 go_wp2_with fail
 refine Calls.mono (of_any 1 _ j0i3 j0i3) ?_
 rintro e w1 ⟨v,rfl,h,hb⟩
 obtain⟨b1,A1,n1,c1,rfl,-,-,h⟩:=h.form
 have hB:=bun (hb)
 have Kr_1:=Lib.hid (show Blk w1 (w.heap.size) 36 #[.bool false,.slice none 0 0,.bool false,.slice none 0 0] from(Blk.new _ _ jupy _ _).below hb)
 have o_1:=Lib.hid (h)
 have HB_1:=Lib.hid (hB)
 have hs_1:w.heap.size≤w1.heap.size:=HB_1.out.size
 have hz_1:w.heap.size+1≤w1.heap.size := jgqk
 clear hB hb
 obtain⟨p10,p11,p12,p13,l1⟩:=Kr_1.out.use4
 obtain⟨r10,r11,r12,r13⟩:=Kr_1.out.into4
 go_wp2
 obtain⟨WF,hWF⟩ : ∃W,W=((((w1.setCell ⟨w.heap.size,0,none⟩ (.bool false)).setCell ⟨w.heap.size,1,none⟩ (.slice none 0 0)).setCell ⟨w.heap.size,2,none⟩ (.bool b1)).setCell ⟨w.heap.size,3,none⟩ (.slice A1 n1 c1)):=⟨_,rfl⟩
 rw [← hWF]
 have kq:Blk WF (w.heap.size) 36 #[.bool false,.slice none 0 0,.bool b1,.slice A1 n1 c1] := jvku
 have hBF:Below w.heap.size w WF:=by rw [hWF];exact Below.set4 (HB_1.out) jvm6
 have fo:IsInt WF (.agg #[.bool b1,.slice A1 n1 c1]) 1 := jvf8
 have HE:Hid (RatPost w WF (Ending.returned (.agg #[.bool false,.slice none 0 0,.bool b1,.slice A1 n1 c1])) 0):=⟨_,rfl,⟨false,_,b1,_,rfl,⟨_,rfl,isNat_nil _⟩,fo⟩,hBF⟩
 obtain⟨e0,e1,e2,e3⟩:=kq.cells4
 clear hWF
 exact bodyPost_ret (v := .agg #[.bool false,.slice none 0 0,.bool b1,.slice A1 n1 c1]) (by simp [results,Tryz.results113,go_sem,e0,e1,e2,e3] <;> omega) rfl HE.out
set_option maxRecDepth 100000 in
set_option maxHeartbeats 1000000 in
theorem may_true(b:Bool)(A:Option Addr)(n c:Nat)(b':Bool)(A':Option Addr)(n' c':Nat)(w:World)(k:Nat)(Y:Int)(h:LimI k w (.agg #[.bool b',.slice A' n' c']) Y)(hk:k≤1000000)(hY:0<Y) :
 Calls Tryz.prog 84 #[(.agg #[.bool b,.slice A n c,.bool b',.slice A' n' c'])] w fun e w'=>e = .returned (.bool true)∧Below w.heap.size w w':=by
 have y_0:=Lib.hid h
 obtain⟨r,hr⟩ : ∃r,cmpI Y 0=r:=⟨_,rfl⟩
 have hr0:0<r:=by rw [← hr,cmpI_gt hY];omega
 have HR:=Lib.hid hr
 clear hr h hY
 go_enter Tryz.func84,Tryz.ntmps84
 go_wp2_with fail
 refine Calls.mono (li_cmp_is r HR.out (y_0.out.alloc_ _) (limI_zero _) hk j0i3) ?_
 rintro e w1 ⟨rfl,hb⟩
 have hB:=bun (hb)
 have y_1:=Lib.hid (y_0.out.below hB)
 have Ka_1:=Lib.hid (show Blk w1 (w.heap.size) 36 #[.bool b,.slice A n c,.bool b',.slice A' n' c'] from(Blk.new _ _ jupy _ _).below hb)
 have HB_1:=Lib.hid (hB)
 have hs_1:w.heap.size≤w1.heap.size:=HB_1.out.size
 have hz_1:w.heap.size+1≤w1.heap.size := jgqk
 clear hB hb y_0
 go_wp2
 go_ret
 exact⟨rfl,HB_1.out⟩
set_option maxRecDepth 100000 in
set_option maxHeartbeats 1000000 in
theorem may_false(b:Bool)(A:Option Addr)(n c:Nat)(b':Bool)(A':Option Addr)(n' c':Nat)(w:World)(k:Nat)(Y:Int)(h:LimI k w (.agg #[.bool b',.slice A' n' c']) Y)(hk:k≤1000000)(hY:Y≤0) :
 Calls Tryz.prog 84 #[(.agg #[.bool b,.slice A n c,.bool b',.slice A' n' c'])] w fun e w'=>e = .returned (.bool false)∧Below w.heap.size w w':=by
 have y_0:=Lib.hid h
 obtain⟨r,hr⟩ : ∃r,cmpI Y 0=r:=⟨_,rfl⟩
 have hr0:r≤0:=by
  rw [← hr]
  unfold cmpI
  by_cases h0:Y<0
  ·rw [if_pos h0];omega
  ·rw [if_neg h0,if_pos j0i3];omega
 have hr1:decide (0<r)=false:=decide_eq_false j0i3
 have HR:=Lib.hid hr
 clear hr h hY
 go_enter Tryz.func84,Tryz.ntmps84
 go_wp2_with fail
 refine Calls.mono (li_cmp_is r HR.out (y_0.out.alloc_ _) (limI_zero _) hk j0i3) ?_
 rintro e w1 ⟨rfl,hb⟩
 have hB:=bun (hb)
 have y_1:=Lib.hid (y_0.out.below hB)
 have Ka_1:=Lib.hid (show Blk w1 (w.heap.size) 36 #[.bool b,.slice A n c,.bool b',.slice A' n' c'] from(Blk.new _ _ jupy _ _).below hb)
 have HB_1:=Lib.hid (hB)
 have hs_1:w.heap.size≤w1.heap.size:=HB_1.out.size
 have hz_1:w.heap.size+1≤w1.heap.size := jgqk
 clear hB hb y_0
 go_wp2
 go_ret
 exact⟨rfl,HB_1.out⟩
set_option maxRecDepth 100000 in
set_option maxHeartbeats 1000000 in
theorem taken_yes(b:Bool)(A:Option Addr)(n c:Nat)(b':Bool)(A':Option Addr)(n' c':Nat)(w:World)(k:Nat)(X Y:Int)(h:LimR k w (.agg #[.bool b,.slice A n c,.bool b',.slice A' n' c']) X Y)(hk:k≤1000000)(hY:0<Y) :
 Calls Tryz.prog 92 #[(.agg #[.bool b,.slice A n c,.bool b',.slice A' n' c'])] w fun e w'=>e = .returned (.agg #[.bool b,.slice A n c,.bool b',.slice A' n' c'])∧Below w.heap.size w w':=by
 obtain⟨_,_,_,_,e0,h1,h2⟩:=h
 injection e0 with e0
 injection e0 with e0
 simp at e0
 obtain⟨rfl,rfl,rfl,rfl⟩:=e0
 have y_0:=Lib.hid h2
 have HY:=Lib.hid hY
 clear h1 h2 hY
 go_enter Tryz.func92,Tryz.ntmps92
 go_wp2_with fail
 refine Calls.mono (may_true _ _ _ _ _ _ _ _ _ k Y ((y_0.out.alloc_ _).alloc_ _) hk HY.out) ?_
 rintro e w1 ⟨rfl,hb⟩
 have hB:=bun (bun (hb))
 have y_1:=Lib.hid (y_0.out.below hB)
 have Ka_1:=Lib.hid (show Blk w1 (w.heap.size) 36 #[.bool b,.slice A n c,.bool b',.slice A' n' c'] from((Blk.new _ _ jupy _ _).alloc_ _).below hb)
 have Kr_1:=Lib.hid (show Blk w1 (w.heap.size+1) 36 #[.bool false,.slice none 0 0,.bool false,.slice none 0 0] from(Blk.new _ _ jupy _ _).below hb)
 have HB_1:=Lib.hid (hB)
 have hs_1:w.heap.size≤w1.heap.size:=HB_1.out.size
 have hz_1:w.heap.size+2≤w1.heap.size := jgqk
 clear hB hb y_0
 obtain⟨p10,p11,p12,p13,l1⟩:=Ka_1.out.use4
 obtain⟨p20,p21,p22,p23,l2⟩:=Kr_1.out.use4
 obtain⟨r20,r21,r22,r23⟩:=Kr_1.out.into4
 go_wp2
 obtain⟨WF,hWF⟩ : ∃W,W=((((w1.setCell ⟨w.heap.size+1,0,none⟩ (.bool b)).setCell ⟨w.heap.size+1,1,none⟩ (.slice A n c)).setCell ⟨w.heap.size+1,2,none⟩ (.bool b')).setCell ⟨w.heap.size+1,3,none⟩ (.slice A' n' c')):=⟨_,rfl⟩
 rw [← hWF]
 have kq:Blk WF (w.heap.size+1) 36 #[.bool b,.slice A n c,.bool b',.slice A' n' c'] := jvku
 have hBF:Below w.heap.size w WF:=by rw [hWF];exact Below.set4 (HB_1.out) jvm6
 have HE:Hid ((Ending.returned (.agg #[.bool b,.slice A n c,.bool b',.slice A' n' c']))=Ending.returned (.agg #[.bool b,.slice A n c,.bool b',.slice A' n' c'])∧Below w.heap.size w WF):=⟨rfl,hBF⟩
 obtain⟨e0,e1,e2,e3⟩:=kq.cells4
 clear hWF
 exact bodyPost_ret (v := .agg #[.bool b,.slice A n c,.bool b',.slice A' n' c']) jjsh rfl HE.out
set_option maxRecDepth 100000 in
set_option maxHeartbeats 1000000 in
theorem taken_no(b:Bool)(A:Option Addr)(n c:Nat)(b':Bool)(A':Option Addr)(n' c':Nat)(w:World)(k:Nat)(X Y:Int)(h:LimR k w (.agg #[.bool b,.slice A n c,.bool b',.slice A' n' c']) X Y)(hk:k≤1000000)(hY:Y≤0) :
 Calls Tryz.prog 92 #[(.agg #[.bool b,.slice A n c,.bool b',.slice A' n' c'])] w fun e w'=>RatPost w w' e 0:=by
 obtain⟨_,_,_,_,e0,h1,h2⟩:=h
 injection e0 with e0
 injection e0 with e0
 simp at e0
 obtain⟨rfl,rfl,rfl,rfl⟩:=e0
 have y_0:=Lib.hid h2
 have HY:=Lib.hid hY
 clear h1 h2 hY
 go_enter Tryz.func92,Tryz.ntmps92
 go_wp2_with fail
 refine Calls.mono (may_false _ _ _ _ _ _ _ _ _ k Y ((y_0.out.alloc_ _).alloc_ _) hk HY.out) ?_
 rintro e w1 ⟨rfl,hb⟩
 have hB:=bun (bun (hb))
 have y_1:=Lib.hid (y_0.out.below hB)
 have Ka_1:=Lib.hid (show Blk w1 (w.heap.size) 36 #[.bool b,.slice A n c,.bool b',.slice A' n' c'] from((Blk.new _ _ jupy _ _).alloc_ _).below hb)
 have Kr_1:=Lib.hid (show Blk w1 (w.heap.size+1) 36 #[.bool false,.slice none 0 0,.bool false,.slice none 0 0] from(Blk.new _ _ jupy _ _).below hb)
 have HB_1:=Lib.hid (hB)
 have hs_1:w.heap.size≤w1.heap.size:=HB_1.out.size
 have hz_1:w.heap.size+2≤w1.heap.size := jgqk
 clear hB hb y_0
 go_wp2_with fail
 refine Calls.mono (zero_any _) ?_
 rintro e w2 ⟨v,rfl,h,hb⟩
 obtain⟨b2,A2,n2,c2,d2,B2,m2,k2,rfl,-,-,-,h1,h2⟩:=h.form
 have hB:=hb
 have Ka_2:=Lib.hid (Ka_1.out.below hB)
 have Kr_2:=Lib.hid (Kr_1.out.below hB)
 have z_2:=Lib.hid (h1)
 have z2_2:=Lib.hid (h2)
 have HB_2:=Lib.hid (below_trans HB_1.out hB)
 have hs_2:w.heap.size≤w2.heap.size:=HB_2.out.size
 have hz_2:w1.heap.size+0≤w2.heap.size := jgqk
 clear hB hb y_1 Ka_1 Kr_1 HB_1
 obtain⟨p10,p11,p12,p13,l1⟩:=Kr_2.out.use4
 obtain⟨r10,r11,r12,r13⟩:=Kr_2.out.into4
 go_wp2
 obtain⟨WF,hWF⟩ : ∃W,W=((((w2.setCell ⟨w.heap.size+1,0,none⟩ (.bool b2)).setCell ⟨w.heap.size+1,1,none⟩ (.slice A2 n2 c2)).setCell ⟨w.heap.size+1,2,none⟩ (.bool d2)).setCell ⟨w.heap.size+1,3,none⟩ (.slice B2 m2 k2)):=⟨_,rfl⟩
 rw [← hWF]
 have kq:Blk WF (w.heap.size+1) 36 #[.bool b2,.slice A2 n2 c2,.bool d2,.slice B2 m2 k2] := jwxb
 have hBF:Below w.heap.size w WF:=by rw [hWF];exact Below.set4 (HB_2.out) jvm6
 have f1:IsInt WF (.agg #[.bool b2,.slice A2 n2 c2]) (0:Rat).num := j5jq
 have f2:IsInt WF (.agg #[.bool d2,.slice B2 m2 k2]) ((0:Rat).den:Int) := jdkc
 have HE:Hid (RatPost w WF (Ending.returned (.agg #[.bool b2,.slice A2 n2 c2,.bool d2,.slice B2 m2 k2])) 0):=⟨_,rfl,⟨_,_,_,_,rfl,f1,f2⟩,hBF⟩
 obtain⟨e0,e1,e2,e3⟩:=kq.cells4
 clear hWF
 exact bodyPost_ret (v := .agg #[.bool b2,.slice A2 n2 c2,.bool d2,.slice B2 m2 k2]) jjsh rfl HE.out
def TakenPost(k:Nat)(w w':World)(e:Ending)(q:Rat):Prop := ∃v,e = .returned v∧LimP k w' v q∧Below w.heap.size w w'
theorem q_taken {k:Nat} {w:World} {v:Value} {q:Rat}(h:LimQ k w v q)(hk:k≤1000000)(h1:1≤k):Calls Tryz.prog 92 #[v] w fun e w'=>TakenPost k w w' e q:=by
 obtain⟨X,Y,h,rfl⟩:=h
 obtain⟨b,A,n,c,b',A',n',c',rfl,ha,hb⟩:=h.form
 unfold ratOf
 by_cases hY:0<Y
 ·rw [if_pos hY]
  refine(taken_yes b A n c b' A' n' c' w k X Y (limR_mk ha hb) hk hY).mono ?_
  rintro e w' ⟨rfl,hbl⟩
  exact⟨_,rfl,⟨X,Y,(limR_mk ha hb).below hbl,hY,rfl⟩,hbl⟩
 ·rw [if_neg hY]
  refine(taken_no b A n c b' A' n' c' w k X Y (limR_mk ha hb) hk j0i3).mono ?_
  rintro e w' ⟨v,rfl,hv,hbl⟩
  exact⟨v,rfl,hv.limP (bq_zero h1),hbl⟩
end Go.Proofs.YtgilnmhejjpleaaGreat
namespace Go.Proofs.YtgilnmhejjpleaaGreat
open Go.RowKit
set_option linter.unusedVariables false
theorem LimI.mag {k:Nat} {w:World} {b:Bool} {m:Value} {X:Int}(h:LimI k w (.agg #[.bool b,m]) X):Lim k w m X.natAbs:=by
 obtain⟨b',m',N,e,h1,rfl⟩:=h
 simp at e
 obtain⟨rfl,rfl⟩:=e
 rw [sg_abs]
 exact h1
theorem isInt_nat {w:World} {m:Value} {N:Nat}(h:IsNat w m N):IsInt w (.agg #[.bool false,m]) (N:Int):=⟨m,by rw [decide_eq_false j0i3],by rwa [Int.natAbs_natCast]⟩
theorem fdiv_even0 {X q:Int} {G:Nat}(h:q*(G:Int)=X)(hG:0<G):FDiv X G q 0:=⟨by omega,.inl ⟨by omega,by omega⟩⟩
set_option maxRecDepth 100000 in
set_option maxHeartbeats 1000000 in
theorem lowest_any(b:Bool)(A:Option Addr)(n c:Nat)(b':Bool)(A':Option Addr)(n' c':Nat)(w:World)(k:Nat)(X Y:Int)(hx:LimI k w (.agg #[.bool b,.slice A n c]) X)(hy:LimI k w (.agg #[.bool b',.slice A' n' c']) Y)(hk:k≤100000)(hY:0<Y) :
 Calls Tryz.prog 103 #[(.agg #[.bool b,.slice A n c,.bool b',.slice A' n' c'])] w fun e w'=>RatPost w w' e (Rat.divInt X Y):=by
 obtain⟨E1,E2,hG⟩:=divInt_parts X hY
 have FX:=Lib.hid (fdiv_even0 E1 hG)
 have FY:=Lib.hid (fdiv_even0 E2 hG)
 have HG:Hid ((Int.gcd X Y:Int)≠0):=by show _≠_;omega
 have BG:Hid ((Int.gcd X Y:Int).natAbs<4294967296 ^ k):=by
  show _<_
  have:=hy.lt
  have h2:=Nat.le_of_dvd j0i3 (Nat.gcd_dvd_right X.natAbs Y.natAbs)
  unfold Int.gcd
  omega
 have x_0:=Lib.hid hx
 have y_0:=Lib.hid hy
 clear E1 E2 hG hx hy hY
 go_enter Tryz.func103,Tryz.ntmps103
 go_wp2_with fail
 refine Calls.mono (lim_gcd ((x_0.out.alloc_ _).alloc_ _).mag ((y_0.out.alloc_ _).alloc_ _).mag j0i3 j0i3) ?_
 rintro e w1 ⟨v,rfl,h,hb⟩
 obtain⟨A1,n1,c1,rfl,-,h⟩:=isNat_form h
 replace h:=isInt_nat h
 have hB:=bun (bun (hb))
 have x_1:=Lib.hid (x_0.out.below hB)
 have y_1:=Lib.hid (y_0.out.below hB)
 have Ka_1:=Lib.hid (show Blk w1 (w.heap.size) 36 #[.bool b,.slice A n c,.bool b',.slice A' n' c'] from((Blk.new _ _ jupy _ _).alloc_ _).below hb)
 have Kr_1:=Lib.hid (show Blk w1 (w.heap.size+1) 36 #[.bool false,.slice none 0 0,.bool false,.slice none 0 0] from(Blk.new _ _ jupy _ _).below hb)
 have g_1:=Lib.hid (h)
 have HB_1:=Lib.hid (hB)
 have hs_1:w.heap.size≤w1.heap.size:=HB_1.out.size
 have hz_1:w.heap.size+2≤w1.heap.size := jgqk
 clear hB hb x_0 y_0
 obtain⟨p10,p11,p12,p13,l1⟩:=Ka_1.out.use4
 go_wp2_with fail
 refine Calls.mono (li_div_is _ 0 FX.out (x_1.out.alloc_ _) ((g_1.out.alloc_ _).lim BG.out) j0i3 j0i3 HG.out) ?_
 rintro e w2 ⟨vq,vr,rfl,h,h2,hb⟩
 obtain⟨b2,A2,n2,c2,rfl,-,-,h⟩:=h.form
 obtain⟨d2,B2,m2,k2,rfl,-,-,h2⟩:=h2.form
 clear h2
 have hB:=bun (hb)
 have x_2:=Lib.hid (x_1.out.below hB)
 have y_2:=Lib.hid (y_1.out.below hB)
 have g_2:=Lib.hid (g_1.out.below hB)
 have Ka_2:=Lib.hid (Ka_1.out.below hB)
 have Kr_2:=Lib.hid (Kr_1.out.below hB)
 have Kg_2:=Lib.hid (show Blk w2 (w1.heap.size) 34 #[.bool false,.slice A1 n1 c1] from(Blk.new _ _ jupy _ _).below hb)
 have q_2:=Lib.hid (h)
 have HB_2:=Lib.hid (below_trans HB_1.out hB)
 have hs_2:w.heap.size≤w2.heap.size:=HB_2.out.size
 have hz_2:w1.heap.size+1≤w2.heap.size := jgqk
 clear hB hb x_1 y_1 g_1 Ka_1 Kr_1 HB_1 p10 p11 p12 p13 l1
 obtain⟨p20,p21,p22,p23,l2⟩:=Ka_2.out.use4
 obtain⟨p30,p31,l3⟩:=Kg_2.out.use2
 go_wp2_with fail
 refine Calls.mono (li_div_is _ 0 FY.out ((y_2.out.alloc_ _).alloc_ _) (((g_2.out.alloc_ _).alloc_ _).lim BG.out) j0i3 j0i3 HG.out) ?_
 rintro e w3 ⟨vq,vr,rfl,h,h2,hb⟩
 obtain⟨b3,A3,n3,c3,rfl,-,-,h⟩:=h.form
 obtain⟨d3,B3,m3,k3,rfl,-,-,h2⟩:=h2.form
 clear h2
 have hB:=bun (bun (hb))
 have q_3:=Lib.hid (q_2.out.below hB)
 have Ka_3:=Lib.hid (Ka_2.out.below hB)
 have Kr_3:=Lib.hid (Kr_2.out.below hB)
 have Kg_3:=Lib.hid (Kg_2.out.below hB)
 have Kq_3:=Lib.hid (show Blk w3 (w2.heap.size) 34 #[.bool b2,.slice A2 n2 c2] from((Blk.new _ _ jupy _ _).alloc_ _).below hb)
 have Kq2_3:=Lib.hid (show Blk w3 (w2.heap.size+1) 34 #[.bool d2,.slice B2 m2 k2] from(Blk.new _ _ jupy _ _).below hb)
 have d_3:=Lib.hid (h)
 have HB_3:=Lib.hid (below_trans HB_2.out hB)
 have hs_3:w.heap.size≤w3.heap.size:=HB_3.out.size
 have hz_3:w2.heap.size+2≤w3.heap.size := jgqk
 clear hB hb x_2 y_2 g_2 q_2 Ka_2 Kr_2 Kg_2 HB_2 p20 p21 p22 p23 l2 p30 p31 l3
 obtain⟨p40,p41,l4⟩:=Kq_3.out.use2
 obtain⟨p50,p51,p52,p53,l5⟩:=Kr_3.out.use4
 obtain⟨r50,r51,r52,r53⟩:=Kr_3.out.into4
 obtain⟨z0,z1,z2,z3,zl⟩:=(show Blk ((w3.alloc (.cells #[.bool b3,.slice A3 n3 c3] 34)).alloc (.cells #[.bool d3,.slice B3 m3 k3] 34)) (w.heap.size+1) 36 #[.bool false,.slice none 0 0,.bool false,.slice none 0 0] from((Kr_3.out.alloc_ _).alloc_ _)).use4
 obtain⟨y0,y1,y2,y3⟩:=(show Blk ((w3.alloc (.cells #[.bool b3,.slice A3 n3 c3] 34)).alloc (.cells #[.bool d3,.slice B3 m3 k3] 34)) (w.heap.size+1) 36 #[.bool false,.slice none 0 0,.bool false,.slice none 0 0] from((Kr_3.out.alloc_ _).alloc_ _)).into4
 go_wp2
 obtain⟨WF,hWF⟩ : ∃W,W=((((((w3.alloc (.cells #[.bool b3,.slice A3 n3 c3] 34)).alloc (.cells #[.bool d3,.slice B3 m3 k3] 34)).setCell ⟨w.heap.size+1,0,none⟩ (.bool b2)).setCell ⟨w.heap.size+1,1,none⟩ (.slice A2 n2 c2)).setCell ⟨w.heap.size+1,2,none⟩ (.bool b3)).setCell ⟨w.heap.size+1,3,none⟩ (.slice A3 n3 c3)):=⟨_,rfl⟩
 rw [← hWF]
 have kq:Blk WF (w.heap.size+1) 36 #[.bool b2,.slice A2 n2 c2,.bool b3,.slice A3 n3 c3]:=by rw [hWF];exact((Kr_3.out.alloc_ _).alloc_ _).own4
 have hBF:Below w.heap.size w WF:=by rw [hWF];exact Below.set4 (halloc (halloc (HB_3.out))) jvm6
 have f1:IsInt WF (.agg #[.bool b2,.slice A2 n2 c2]) (Rat.divInt X Y).num:=by rw [hWF];exact((q_3.out.alloc_ _).alloc_ _).other4 ((Kr_3.out.alloc_ _).alloc_ _) nu nu nu nu
 have f2:IsInt WF (.agg #[.bool b3,.slice A3 n3 c3]) ((Rat.divInt X Y).den:Int):=by rw [hWF];exact((d_3.out.alloc_ _).alloc_ _).other4 ((Kr_3.out.alloc_ _).alloc_ _) nu nu nu nu
 have HE:Hid (RatPost w WF (Ending.returned (.agg #[.bool b2,.slice A2 n2 c2,.bool b3,.slice A3 n3 c3])) (Rat.divInt X Y)):=⟨_,rfl,⟨_,_,_,_,rfl,f1,f2⟩,hBF⟩
 obtain⟨e0,e1,e2,e3⟩:=kq.cells4
 clear hWF
 exact bodyPost_ret (v := .agg #[.bool b2,.slice A2 n2 c2,.bool b3,.slice A3 n3 c3]) (by simp [results,Tryz.results103,go_sem,e0,e1,e2,e3] <;> omega) rfl HE.out
theorem p_lowest {k:Nat} {w:World} {v:Value} {q:Rat}(h:LimP k w v q)(hk:k≤100000):Calls Tryz.prog 103 #[v] w fun e w'=>RatPost w w' e q:=by
 obtain⟨X,Y,h,hY,rfl⟩:=h
 obtain⟨b,A,n,c,b',A',n',c',rfl,ha,hb⟩:=h.form
 exact lowest_any b A n c b' A' n' c' w k X Y ha hb hk hY
set_option maxRecDepth 100000 in
set_option maxHeartbeats 1000000 in
theorem q_plain0(b:Bool)(A:Option Addr)(n c:Nat)(b':Bool)(A':Option Addr)(n' c':Nat)(w:World)(k:Nat)(q:Rat)(h:LimQ k w (.agg #[.bool b,.slice A n c,.bool b',.slice A' n' c']) q)(hk:k≤100000)(h1:1≤k) :
 Calls Tryz.prog 71 #[(.agg #[.bool b,.slice A n c,.bool b',.slice A' n' c'])] w fun e w'=>RatPost w w' e q:=by
 have x_0:=Lib.hid h
 clear h
 go_enter Tryz.func71,Tryz.ntmps71
 go_wp2_with fail
 refine Calls.mono (q_taken ((x_0.out.alloc_ _).alloc_ _) j0i3 h1) ?_
 rintro e w1 ⟨v1,rfl,h,hb⟩
 have hB:=bun (bun (hb))
 have Ka_1:=Lib.hid (show Blk w1 (w.heap.size) 36 #[.bool b,.slice A n c,.bool b',.slice A' n' c'] from((Blk.new _ _ jupy _ _).alloc_ _).below hb)
 have Kr_1:=Lib.hid (show Blk w1 (w.heap.size+1) 36 #[.bool false,.slice none 0 0,.bool false,.slice none 0 0] from(Blk.new _ _ jupy _ _).below hb)
 have t_1:=Lib.hid (h)
 have HB_1:=Lib.hid (hB)
 have hs_1:w.heap.size≤w1.heap.size:=HB_1.out.size
 have hz_1:w.heap.size+2≤w1.heap.size := jgqk
 clear hB hb x_0
 go_wp2_with fail
 refine Calls.mono (p_lowest t_1.out hk) ?_
 rintro e w2 ⟨v2,rfl,h,hb⟩
 obtain⟨b2,A2,n2,c2,d2,B2,m2,k2,rfl,-,-,-,h1,h2⟩:=h.form
 have hB:=hb
 have Ka_2:=Lib.hid (Ka_1.out.below hB)
 have Kr_2:=Lib.hid (Kr_1.out.below hB)
 have z_2:=Lib.hid (h1)
 have z2_2:=Lib.hid (h2)
 have HB_2:=Lib.hid (below_trans HB_1.out hB)
 have hs_2:w.heap.size≤w2.heap.size:=HB_2.out.size
 have hz_2:w1.heap.size+0≤w2.heap.size := jgqk
 clear hB hb t_1 Ka_1 Kr_1 HB_1
 obtain⟨p10,p11,p12,p13,l1⟩:=Kr_2.out.use4
 obtain⟨r10,r11,r12,r13⟩:=Kr_2.out.into4
 go_wp2
 obtain⟨WF,hWF⟩ : ∃W,W=((((w2.setCell ⟨w.heap.size+1,0,none⟩ (.bool b2)).setCell ⟨w.heap.size+1,1,none⟩ (.slice A2 n2 c2)).setCell ⟨w.heap.size+1,2,none⟩ (.bool d2)).setCell ⟨w.heap.size+1,3,none⟩ (.slice B2 m2 k2)):=⟨_,rfl⟩
 rw [← hWF]
 have kq:Blk WF (w.heap.size+1) 36 #[.bool b2,.slice A2 n2 c2,.bool d2,.slice B2 m2 k2] := jwxb
 have hBF:Below w.heap.size w WF:=by rw [hWF];exact Below.set4 (HB_2.out) jvm6
 have f1:IsInt WF (.agg #[.bool b2,.slice A2 n2 c2]) (q).num := j5jq
 have f2:IsInt WF (.agg #[.bool d2,.slice B2 m2 k2]) ((q).den:Int) := jdkc
 have HE:Hid (RatPost w WF (Ending.returned (.agg #[.bool b2,.slice A2 n2 c2,.bool d2,.slice B2 m2 k2])) (q)):=⟨_,rfl,⟨_,_,_,_,rfl,f1,f2⟩,hBF⟩
 obtain⟨e0,e1,e2,e3⟩:=kq.cells4
 clear hWF
 exact bodyPost_ret (v := .agg #[.bool b2,.slice A2 n2 c2,.bool d2,.slice B2 m2 k2]) (by simp [results,Tryz.results71,go_sem,e0,e1,e2,e3] <;> omega) rfl HE.out
theorem q_plain {k:Nat} {w:World} {v:Value} {q:Rat}(h:LimQ k w v q)(hk:k≤100000)(h1:1≤k):Calls Tryz.prog 71 #[v] w fun e w'=>RatPost w w' e q:=by
 have H:=h
 obtain⟨X,Y,h,rfl⟩:=h
 obtain⟨b,A,n,c,b',A',n',c',rfl,ha,hb⟩:=h.form
 exact q_plain0 b A n c b' A' n' c' w k _ H hk h1
end Go.Proofs.YtgilnmhejjpleaaGreat
