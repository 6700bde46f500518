/- Mathematics: what numbers fulfil a problem, and the columns' numbers of it. Nothing of memory is in here. -/
import Derived.Test.YtgilnmhejjpleaaGreatPFl
import Derived.Test.YtgilnmhejjpleaaGreatPFg
import Derived.Test.YtgilnmhejjpleaaGreatPGb
import Derived.Test.YtgilnmhejjpleaaGreatPGc
namespace Go.Proofs.YtgilnmhejjpleaaGreat
open Go.RowKit
set_option linter.unusedSimpArgs false
set_option linter.unusedVariables false
theorem j9vo {P:Prop}(h:P:=by rw [varL_len, yV_len]):P:=h
theorem jr4j {P:Prop}(h:P:=by rw [List.length_append, List.length_append, varL_len, slkL_len2, yV_len, yS_len]):P:=h
def scnt(p:LpX):Nat→Nat
 | 0=>0
 |i+1=>scnt p i+(if (p.row i).s=1 then 0 else 1)
theorem slkL_len2(p:LpX) : ∀n,(slkL p n).length=scnt p n
 | 0=>rfl
 |n+1=>by
  rw [slkL,List.length_append,slkL_len2 p n,scnt]
  split <;> simp
theorem colL_len2(p:LpX):(colL p).length=p.no+scnt p p.m+cntF p.op p.no:=by rw [colL,List.length_append,List.length_append,varL_len,endL_len,slkL_len2]
def yV(p:LpX)(x:Nat→Rat):Nat→List Rat
 | 0 => []
 |j+1=>yV p x j ++ [x j - p.lo.q j]
def dX(p:LpX)(x:Nat→Rat)(i:Nat):Rat:=dotF (p.row i).coef.q x p.cost.n
def yS(p:LpX)(x:Nat→Rat):Nat→List Rat
 | 0 => []
 |i+1=>yS p x i ++ (if (p.row i).s=1 then [] else if (p.row i).s=2 then [dX p x i - (p.row i).h] else [(p.row i).h - dX p x i])
def yE(p:LpX)(x:Nat→Rat):Nat→List Rat
 | 0 => []
 |j+1=>yE p x j ++ (if p.op j then [] else [p.hi.q j - x j])
def yL(p:LpX)(x:Nat→Rat):List Rat:=yV p x p.no ++ yS p x p.m ++ yE p x p.no
theorem yV_len(p:LpX)(x:Nat→Rat) : ∀n,(yV p x n).length=n
 | 0=>rfl
 |n+1=>by rw [yV,List.length_append,yV_len p x n];rfl
theorem yS_len(p:LpX)(x:Nat→Rat) : ∀n,(yS p x n).length=scnt p n
 | 0=>rfl
 |n+1=>by
  rw [yS,List.length_append,yS_len p x n,scnt]
  split
  ·rfl
  ·split <;> rfl
theorem yE_len(p:LpX)(x:Nat→Rat) : ∀n,(yE p x n).length=cntF p.op n
 | 0=>rfl
 |n+1=>by
  rw [yE,List.length_append,yE_len p x n,cntF]
  cases p.op n <;> simp
theorem yL_len(p:LpX)(x:Nat→Rat):(yL p x).length=(colL p).length:=by rw [yL,List.length_append,List.length_append,yV_len,yS_len,yE_len,colL_len2]
def dL(F:ColX→Rat)(L:List ColX)(ys:List Rat):Rat:=dotF (fun k=>F (L[k]?.getD ⟨-1,-1,0⟩)) (fun k=>ys[k]?.getD 0) L.length
theorem dotF_shift(f g f1 g1 f2 g2:Nat→Rat)(n:Nat)(h1 : ∀i,i<n→f i=f1 i∧g i=g1 i) : ∀m,(∀i,i<m→f (n+i)=f2 i∧g (n+i)=g2 i)→dotF f g (n+m)=dotF f1 g1 n+dotF f2 g2 m
 | 0,_=>by
   show dotF f g n=dotF f1 g1 n+0
   rw [Rat.add_zero]
   exact dotF_congr n (fun i hi=>(h1 i hi).1) (fun i hi=>(h1 i hi).2)
 |m+1,h2=>by
  show dotF f g (n+m)+f (n+m)*g (n+m)=dotF f1 g1 n+(dotF f2 g2 m+f2 m*g2 m)
  rw [dotF_shift f g f1 g1 f2 g2 n h1 m (fun i hi=>h2 i j0i3),(h2 m j0i3).1,(h2 m j0i3).2,Rat.add_assoc]
theorem dL_app(F:ColX→Rat) {L1 L2:List ColX} {y1 y2:List Rat}(h:L1.length=y1.length):dL F (L1 ++ L2) (y1 ++ y2)=dL F L1 y1+dL F L2 y2:=by
 unfold dL
 rw [List.length_append]
 refine dotF_shift _ _ _ _ _ _ _ (fun i hi=>⟨by rw [List.getElem?_append_left hi],by rw [List.getElem?_append_left j0i3]⟩) _ (fun i hi=>⟨?_,?_⟩)
 ·rw [List.getElem?_append_right j0i3,Nat.add_sub_cancel_left]
 ·rw [List.getElem?_append_right j0i3,h,Nat.add_sub_cancel_left]
theorem dL_one(F:ColX→Rat)(c:ColX)(y:Rat):dL F [c] [y]=F c*y:=by
 show 0+F c*y=_
 rw [Rat.zero_add]
theorem dotF_smul(s:Rat)(f g:Nat→Rat) : ∀n,dotF (fun k=>s*f k) g n=s*dotF f g n
 | 0=>by show(0:Rat)=s*0;rw [Rat.mul_zero]
 |n+1=>by
  show dotF (fun k=>s*f k) g n+s*f n*g n=s*(dotF f g n+f n*g n)
  rw [dotF_smul s f g n]
  grind
section
variable {p:LpX} {x:Nat→Rat} {i:Nat}
theorem inF_var_m(hi:i<p.m)(j:Nat):inF p ⟨(j:Nat),endR p j,1⟩ i=(p.row i).coef.q j:=by
 unfold inF
 have : ¬ (i:Int)=endR p j:=by unfold endR;split <;> omega
 rw [if_neg this,if_pos ⟨by show(0:Int)≤(j:Int);omega,hi⟩]
 rfl
theorem inF_none {r u:Int}(h:(i:Int)≠r):inF p ⟨-1,r,u⟩ i=0:=by
 unfold inF
 rw [if_neg h,if_neg (fun h=>absurd h.1 jxzq)]
theorem inF_own {v u:Int} : inF p ⟨v,(i:Nat),u⟩ i=(u:Rat):=by
 unfold inF
 rw [if_pos rfl]
theorem sumV_m(hi:i<p.m) : ∀n,dL (fun c=>inF p c i) (varL p n) (yV p x n)=dotF (p.row i).coef.q x n - dotF (p.row i).coef.q p.lo.q n
 | 0=>by show(0:Rat)=0 - 0;grind
 |n+1=>by
  rw [varL,yV,dL_app _ j9vo,dL_one,sumV_m hi n,inF_var_m hi]
  show _=(dotF (p.row i).coef.q x n+(p.row i).coef.q n*x n) - (dotF (p.row i).coef.q p.lo.q n+(p.row i).coef.q n*p.lo.q n)
  grind
def slX(p:LpX)(x:Nat→Rat)(i:Nat):Rat:=if (p.row i).s=1 then 0 else if (p.row i).s=2 then -(dX p x i - (p.row i).h) else (p.row i).h - dX p x i
theorem sumS_m : ∀n,dL (fun c=>inF p c i) (slkL p n) (yS p x n)=if i<n then slX p x i else 0
 | 0=>by rw [if_neg j0i3];rfl
 |n+1=>by
  rw [slkL,yS,dL_app _ (by rw [slkL_len2,yS_len]),sumS_m n]
  by_cases e:i=n
  ·subst e
   have e1:(if i<i then slX p x i else 0)=0:=if_neg j0i3
   have e2:(if i<i+1 then slX p x i else 0)=slX p x i:=if_pos j0i3
   rw [e1,e2,Rat.zero_add]
   by_cases h1:(p.row i).s=1
   ·rw [if_pos h1,if_pos h1];unfold slX;rw [if_pos h1];rfl
   ·rw [if_neg h1,if_neg h1]
    unfold slX
    rw [if_neg h1]
    by_cases h2:(p.row i).s=2
    ·rw [if_pos h2,if_pos h2,dL_one,inF_own]
     unfold slkU
     rw [if_pos h2,Rat.intCast_neg,Rat.intCast_one,Rat.neg_mul,Rat.one_mul]
    ·rw [if_neg h2,if_neg h2,dL_one,inF_own]
     unfold slkU
     rw [if_neg h2,Rat.intCast_one,Rat.one_mul]
  ·have h0:dL (fun c=>inF p c i) (if (p.row n).s=1 then [] else [⟨-1,(n:Nat),slkU (p.row n).s⟩]) (if (p.row n).s=1 then [] else if (p.row n).s=2 then [dX p x n - (p.row n).h] else [(p.row n).h - dX p x n])=0:=by
    split
    ·rfl
    ·split <;> rw [dL_one,inF_none j0i3,Rat.zero_mul]
   rw [h0,Rat.add_zero]
   by_cases h:i<n
   ·rw [if_pos h,if_pos j0i3]
   ·rw [if_neg h,if_neg j0i3]
theorem sumE_m(hi:i<p.m) : ∀n,dL (fun c=>inF p c i) (endL p n) (yE p x n)=0
 | 0=>rfl
 |n+1=>by
  rw [endL,yE,dL_app _ (by rw [endL_len,yE_len]),sumE_m hi n,Rat.zero_add]
  cases ho:p.op n
  ·simp only [Bool.false_eq_true,if_false]
   rw [dL_one,inF_none (by unfold endR;rw [ho];simp only [Bool.false_eq_true,if_false];omega),Rat.zero_mul]
  ·rfl
theorem row_m(hm:MayX p)(hi:i<p.m):dL (fun c=>inF p c i) (colL p) (yL p x)=dX p x i - dotF (p.row i).coef.q p.lo.q p.cost.n+slX p x i:=by
 unfold colL yL
 rw [dL_app _ jr4j,dL_app _ j9vo,sumV_m hi,sumS_m,sumE_m hi,if_pos hi,Rat.add_zero,hm.1.2.2.1]
 rfl
theorem sumV_e {j:Nat}(ho:p.op j=false) : ∀n,dL (fun c=>inF p c (p.m+cntF p.op j)) (varL p n) (yV p x n)=if j<n then x j - p.lo.q j else 0
 | 0=>by rw [if_neg j0i3];rfl
 |n+1=>by
  rw [varL,yV,dL_app _ j9vo,dL_one,sumV_e ho n]
  by_cases e:j=n
  ·subst e
   have:endR p j=((p.m+cntF p.op j:Nat):Int):=by unfold endR;rw [ho];rfl
   rw [this,inF_own,if_neg j0i3,if_pos j0i3,Rat.zero_add,Rat.intCast_one,Rat.one_mul]
  ·have h0:inF p ⟨(n:Nat),endR p n,1⟩ (p.m+cntF p.op j)=0:=by
    unfold inF
    have : ¬ ((p.m+cntF p.op j:Nat):Int)=endR p n:=by
     unfold endR
     cases hn:p.op n
     ·simp only [Bool.false_eq_true,if_false]
      intro h
      exact e (cntF_inj p.op ho hn j0i3)
     ·simp only [if_true]
      omega
    rw [if_neg this,if_neg (fun h=>absurd h.2 j0i3)]
   rw [h0,Rat.zero_mul,Rat.add_zero]
   by_cases h:j<n
   ·rw [if_pos h,if_pos j0i3]
   ·rw [if_neg h,if_neg j0i3]
theorem sumS_e {i:Nat} : ∀n,n≤i→dL (fun c=>inF p c i) (slkL p n) (yS p x n)=0:=fun n h=>by rw [sumS_m,if_neg j0i3]
theorem sumE_e {j:Nat}(ho:p.op j=false) : ∀n,dL (fun c=>inF p c (p.m+cntF p.op j)) (endL p n) (yE p x n)=if j<n then p.hi.q j - x j else 0
 | 0=>by rw [if_neg j0i3];rfl
 |n+1=>by
  rw [endL,yE,dL_app _ (by rw [endL_len,yE_len]),sumE_e ho n]
  by_cases e:j=n
  ·subst e
   rw [ho]
   simp only [Bool.false_eq_true,if_false]
   have:endR p j=((p.m+cntF p.op j:Nat):Int):=by unfold endR;rw [ho];rfl
   rw [dL_one,this,inF_own,if_neg j0i3,if_pos j0i3,Rat.zero_add,Rat.intCast_one,Rat.one_mul]
  ·have h0:dL (fun c=>inF p c (p.m+cntF p.op j)) (if p.op n then [] else [⟨-1,endR p n,1⟩]) (if p.op n then [] else [p.hi.q n - x n])=0:=by
    cases hn:p.op n
    ·simp only [Bool.false_eq_true,if_false]
     rw [dL_one,inF_none,Rat.zero_mul]
     unfold endR
     rw [hn]
     simp only [Bool.false_eq_true,if_false]
     intro h
     exact e (cntF_inj p.op ho hn j0i3)
    ·rfl
   rw [h0,Rat.add_zero]
   by_cases h:j<n
   ·rw [if_pos h,if_pos j0i3]
   ·rw [if_neg h,if_neg j0i3]
theorem row_e {j:Nat}(ho:p.op j=false)(hj:j<p.no):dL (fun c=>inF p c (p.m+cntF p.op j)) (colL p) (yL p x)=p.hi.q j - p.lo.q j:=by
 unfold colL yL
 rw [dL_app _ jr4j,dL_app _ j9vo,sumV_e ho,sumS_e _ j0i3,sumE_e ho,if_pos hj,if_pos hj]
 grind
end
end Go.Proofs.YtgilnmhejjpleaaGreat
namespace Go.Proofs.YtgilnmhejjpleaaGreat
open Go.RowKit
set_option linter.unusedSimpArgs false
set_option linter.unusedVariables false
theorem sub_nn(a b:Rat):0≤a - b↔b≤a:=by constructor <;> intro h <;> grind
theorem get_mem {L:List Rat} : (∀k,k<L.length→0≤L[k]?.getD 0)↔∀y∈L,0≤y:=by
 constructor
 ·intro h y hy
  obtain⟨k,hk,rfl⟩:=List.mem_iff_getElem.1 hy
  have:=h k hk
  rw [List.getElem?_eq_getElem hk] at this
  exact this
 ·intro h k hk
  rw [List.getElem?_eq_getElem hk]
  exact h _ (List.getElem_mem hk)
section
variable {p:LpX} {x:Nat→Rat}
theorem memV : ∀n,(∀y∈yV p x n,0≤y)↔∀j,j<n→p.lo.q j≤x j
 | 0=>⟨fun _ j hj=>absurd hj j0i3,fun _ y hy=>by cases hy⟩
 |n+1=>by
  rw [yV]
  constructor
  ·intro h j hj
   by_cases e:j=n
   ·subst e
    exact(sub_nn _ _).1 (h _ jupy)
   ·exact(memV n).1 (fun y hy=>h y (List.mem_append.2 (.inl hy))) j j0i3
  ·intro h y hy
   rcases List.mem_append.1 hy with hy | hy
   ·exact(memV n).2 (fun j hj=>h j j0i3) y hy
   ·obtain rfl:=List.mem_singleton.1 hy
    exact(sub_nn _ _).2 (h n j0i3)
theorem memS : ∀n,(∀y∈yS p x n,0≤y)↔∀i,i<n→(p.row i).s≠1→if (p.row i).s=2 then (p.row i).h≤dX p x i else dX p x i≤(p.row i).h
 | 0=>⟨fun _ j hj=>absurd hj j0i3,fun _ y hy=>by cases hy⟩
 |n+1=>by
  rw [yS]
  constructor
  ·intro h i hi h1
   by_cases e:i=n
   ·subst e
    rw [if_neg h1] at h
    by_cases h2:(p.row i).s=2
    ·rw [if_pos h2] at h ⊢
     exact(sub_nn _ _).1 (h _ jupy)
    ·rw [if_neg h2] at h ⊢
     exact(sub_nn _ _).1 (h _ jupy)
   ·exact(memS n).1 (fun y hy=>h y (List.mem_append.2 (.inl hy))) i j0i3 h1
  ·intro h y hy
   rcases List.mem_append.1 hy with hy | hy
   ·exact(memS n).2 (fun j hj=>h j j0i3) y hy
   ·by_cases h1:(p.row n).s=1
    ·rw [if_pos h1] at hy;cases hy
    ·rw [if_neg h1] at hy
     have:=h n j0i3 h1
     by_cases h2:(p.row n).s=2
     ·rw [if_pos h2] at hy this
      obtain rfl:=List.mem_singleton.1 hy
      exact(sub_nn _ _).2 this
     ·rw [if_neg h2] at hy this
      obtain rfl:=List.mem_singleton.1 hy
      exact(sub_nn _ _).2 this
theorem memE : ∀n,(∀y∈yE p x n,0≤y)↔∀j,j<n→p.op j=false→x j≤p.hi.q j
 | 0=>⟨fun _ j hj=>absurd hj j0i3,fun _ y hy=>by cases hy⟩
 |n+1=>by
  rw [yE]
  constructor
  ·intro h j hj ho
   by_cases e:j=n
   ·subst e
    rw [ho] at h
    exact(sub_nn _ _).1 (h _ jupy)
   ·exact(memE n).1 (fun y hy=>h y (List.mem_append.2 (.inl hy))) j j0i3 ho
  ·intro h y hy
   rcases List.mem_append.1 hy with hy | hy
   ·exact(memE n).2 (fun j hj=>h j j0i3) y hy
   ·cases ho:p.op n
    ·rw [ho] at hy
     simp only [Bool.false_eq_true,if_false] at hy
     obtain rfl:=List.mem_singleton.1 hy
     exact(sub_nn _ _).2 (h n j0i3 ho)
    ·rw [ho] at hy
     cases hy
theorem sgn_cancel {i:Nat} {a b:Rat} : sgnF p i*a=sgnF p i*b↔a=b:=by
 unfold sgnF
 split
 ·constructor
  ·intro h;grind
  ·intro h;rw [h]
 ·constructor
  ·intro h;grind
  ·intro h;rw [h]
theorem std_dot(i:Nat):dotF (stdA p i) (fun k=>(yL p x)[k]?.getD 0) (colL p).length=sgnF p i*dL (fun c=>inF p c i) (colL p) (yL p x):=dotF_smul _ _ _ _
theorem row_cases {i:Nat}(h:i<rowsC p):i<p.m∨∃j,j<p.no∧p.op j=false∧i=p.m+cntF p.op j:=by
 by_cases hm:i<p.m
 ·exact .inl hm
 ·right
  have : ∀n c,c<cntF p.op n→∃j,j<n∧p.op j=false∧cntF p.op j=c:=fun n=>by
   induction n with
   |zero=>intro c hc;exact absurd hc (by simp [cntF])
   |succ n ih =>
    intro c hc
    cases ho:p.op n
    ·have e:cntF p.op (n+1)=cntF p.op n+1:=by simp [cntF,ho]
     by_cases e2:c=cntF p.op n
     ·exact⟨n,by omega,ho,e2.symm⟩
     ·obtain⟨j,h1,h2,h3⟩:=ih c j0i3
      exact⟨j,by omega,h2,h3⟩
    ·have e:cntF p.op (n+1)=cntF p.op n:=by simp [cntF,ho]
     obtain⟨j,h1,h2,h3⟩:=ih c j0i3
     exact⟨j,by omega,h2,h3⟩
  unfold rowsC at h
  obtain⟨j,h1,h2,h3⟩:=this p.no (i - p.m) j0i3
  exact⟨j,h1,h2,by omega⟩
theorem rows_iff(hm:MayX p):(∀i,i<rowsC p→dotF (stdA p i) (fun k=>(yL p x)[k]?.getD 0) (colL p).length=stdB p i)↔∀i,i<p.m→(p.row i).s=1→dX p x i=(p.row i).h:=by
 have one : ∀i,i<p.m→(dotF (stdA p i) (fun k=>(yL p x)[k]?.getD 0) (colL p).length=stdB p i↔((p.row i).s=1→dX p x i=(p.row i).h)):=fun i hi=>by
  rw [std_dot,stdB,sgn_cancel,row_m hm hi,heldF_m p hi]
  unfold heldR slX
  by_cases h1:(p.row i).s=1
  ·rw [if_pos h1]
   constructor
   ·intro h _;grind
   ·intro h;have:=h h1;grind
  ·rw [if_neg h1]
   constructor
   ·intro _ h;exact absurd h h1
   ·intro _
    split
    ·grind
    ·grind
 constructor
 ·intro h i hi
  exact(one i hi).1 (h i (by unfold rowsC;omega))
 ·intro h i hi
  rcases row_cases hi with hi | ⟨j,hj,ho,rfl⟩
  ·exact(one i hi).2 (h i hi)
  ·rw [std_dot,stdB,sgn_cancel,row_e ho hj,heldF_e p hj ho]
theorem fits_iff(hm:MayX p):((∀k,k<(colL p).length→0≤(yL p x)[k]?.getD 0)∧∀i,i<rowsC p→dotF (stdA p i) (fun k=>(yL p x)[k]?.getD 0) (colL p).length=stdB p i)↔FulX p p.cost.n x:=by
 rw [rows_iff hm,← yL_len p x,get_mem]
 have hn:p.no=p.cost.n:=hm.1.2.2.1
 have split3:(∀y∈yL p x,0≤y)↔(∀y∈yV p x p.no,0≤y)∧(∀y∈yS p x p.m,0≤y)∧∀y∈yE p x p.no,0≤y:=by
  unfold yL
  constructor
  ·intro h
   exact⟨fun y hy=>h y (by simp [hy]),fun y hy=>h y (by simp [hy]),fun y hy=>h y (by simp [hy])⟩
  ·rintro⟨a,b,c⟩ y hy
   rcases List.mem_append.1 hy with hy | hy
   ·rcases List.mem_append.1 hy with hy | hy
    ·exact a y hy
    ·exact b y hy
   ·exact c y hy
 rw [split3,memV,memS,memE,hn]
 unfold FulX HoldX
 constructor
 ·rintro⟨⟨a,b,c⟩,d⟩
  refine⟨rfl,fun j hj=>⟨a j hj,c j hj⟩,fun i hi=>?_⟩
  rcases (hm.2.2.1 i hi).2.1 with h | h | h
  ·rw [if_pos h];have:=b i hi j0i3;rw [if_neg j0i3] at this;exact this
  ·rw [if_neg j0i3,if_neg j0i3];exact d i hi h
  ·rw [if_neg j0i3,if_pos h];have:=b i hi j0i3;rw [if_pos h] at this;exact this
 ·rintro⟨_,a,b⟩
  refine⟨⟨fun j hj=>(a j hj).1,fun i hi h1=>?_,fun j hj=>(a j hj).2⟩,fun i hi h1=>?_⟩
  ·have:=b i hi
   rcases (hm.2.2.1 i hi).2.1 with h | h | h
   ·rw [if_pos h] at this;rw [if_neg j0i3];exact this
   ·exact absurd h h1
   ·rw [if_neg j0i3,if_pos h] at this;rw [if_pos h];exact this
  ·have:=b i hi
   rw [if_neg j0i3,if_neg j0i3] at this
   exact this
theorem costV : ∀n,dL (costF p) (varL p n) (yV p x n)=dotF p.cost.q x n - dotF p.cost.q p.lo.q n
 | 0=>by show(0:Rat)=0 - 0;grind
 |n+1=>by
  rw [varL,yV,dL_app _ j9vo,dL_one,costV n]
  have:costF p ⟨(n:Nat),endR p n,1⟩=p.cost.q n:=by unfold costF;rw [if_pos (by show(0:Int)≤(n:Int);omega)];rfl
  rw [this]
  show _=(dotF p.cost.q x n+p.cost.q n*x n) - (dotF p.cost.q p.lo.q n+p.cost.q n*p.lo.q n)
  grind
theorem cost_none {r u:Int} : costF p ⟨-1,r,u⟩=0:=by unfold costF;rw [if_neg jxzq]
theorem costS : ∀n,dL (costF p) (slkL p n) (yS p x n)=0
 | 0=>rfl
 |n+1=>by
  rw [slkL,yS,dL_app _ (by rw [slkL_len2,yS_len]),costS n,Rat.zero_add]
  split
  ·rfl
  ·split <;> rw [dL_one,cost_none,Rat.zero_mul]
theorem costE : ∀n,dL (costF p) (endL p n) (yE p x n)=0
 | 0=>rfl
 |n+1=>by
  rw [endL,yE,dL_app _ (by rw [endL_len,yE_len]),costE n,Rat.zero_add]
  cases ho:p.op n
  ·simp only [Bool.false_eq_true,if_false]
   rw [dL_one,cost_none,Rat.zero_mul]
  ·rfl
theorem cost_std(hm:MayX p):dotF (stdC p) (fun k=>(yL p x)[k]?.getD 0) (colL p).length+dotF p.cost.q p.lo.q p.cost.n=dotF p.cost.q x p.cost.n:=by
 have:dotF (stdC p) (fun k=>(yL p x)[k]?.getD 0) (colL p).length=dL (costF p) (colL p) (yL p x):=rfl
 rw [this]
 unfold colL yL
 rw [dL_app _ jr4j,dL_app _ j9vo,costV,costS,costE,hm.1.2.2.1]
 grind
end
end Go.Proofs.YtgilnmhejjpleaaGreat
namespace Go.Proofs.YtgilnmhejjpleaaGreat
open Go.RowKit
attribute [local go_sem ↓] Go.wp_at_zero Go.wp_at_succ
set_option linter.unusedVariables false
set_option linter.unusedSimpArgs false
theorem LpC.alloc_ {w:World} {v:Value} {D:LpY}(h:LpC w v D)(o:Obj):LpC (w.alloc o) v D:=h.below (below_new w o)
theorem few_std {w:World} {v:Value} {p:LpX}(h:LpQ 1 w v p)(hm:MayX p):rowsC p≤48∧(colL p).length≤72:=by
 have h1:=colL_len p
 have h2:=cntF_le p.op p.no
 have h3:=hm.1
 unfold rowsC
 omega
end Go.Proofs.YtgilnmhejjpleaaGreat
