/- Rows and tables of one's own: made, stored into, appended to. -/
import Derived.Test.YtgilnmhejjpleaaGreatPYa
import Derived.Deep.RegionLaw
import Derived.Lib.AppendZeros
namespace Go.Proofs.YtgilnmhejjpleaaGreat
open Go.RowKit
set_option linter.unusedSimpArgs false
set_option linter.unusedVariables false
set_option maxRecDepth 100000
theorem rat_info:(Tryz.prog.info? 36).map (fun i=>(i.zero,i.size,i.bytes))=some (some ratZ.val,4,64):=by kernel_rfl
theorem rrow_info:(Tryz.prog.info? 22).map (fun i=>(i.zero,i.size,i.bytes))=some (some (.slice none 0 0),1,24):=by kernel_rfl
theorem info_parts {P:Program} {e:TypeId} {z:Value} {size bytes:Nat}(h:(P.info? e).map (fun i=>(i.zero,i.size,i.bytes))=some (some z,size,bytes)) : ∃i,P.info? e=some i∧i.zero=some z∧i.size=size∧i.bytes=bytes:=by
 obtain⟨i,hi,hzz⟩:=Option.map_eq_some_iff.1 h
 simp only [Prod.mk.injEq] at hzz
 exact⟨i,hi,hzz.1,hzz.2.1,hzz.2.2⟩
theorem ratL_one(x:RatD) : ∀u∈ratL x,u.oneCell'=true:=fun u hu=>by
 simp [ratL] at hu
 rcases hu with rfl | rfl | rfl | rfl <;> rfl
theorem ratL_nu(x:RatD) : ∀u∈ratL x,Nu u:=fun u hu=>by
 simp [ratL] at hu
 rcases hu with rfl | rfl | rfl | rfl
 ·exact nu
 ·exact nu
 ·exact nu
 ·exact nu
def rowR(X:Nat→RatD)(k:Nat):List Value:=(List.range k).flatMap fun i=>ratL (X i)
theorem rowR_succ(X:Nat→RatD)(k:Nat):rowR X (k+1)=rowR X k ++ ratL (X k):=by
 unfold rowR
 rw [List.range_succ,List.flatMap_append]
 simp
theorem rowR_len(X:Nat→RatD) : ∀k,(rowR X k).length=k*4
 | 0=>rfl
 |k+1=>by rw [rowR_succ,List.length_append,rowR_len X k];simp [ratL];omega
theorem rowR_get(X:Nat→RatD) {i j:Nat}(hj:j<4) : ∀k,i<k→(rowR X k)[i*4+j]? = (ratL (X i))[j]?
 | 0,h=>absurd h j0a
 |k+1,h=>by
  rw [rowR_succ]
  by_cases hk:i<k
  ·rw [List.getElem?_append_left (by rw [rowR_len];omega)]
   exact rowR_get X hj k hk
  ·obtain rfl:i=k:=by omega
   rw [List.getElem?_append_right (by rw [rowR_len];omega),rowR_len,Nat.add_sub_cancel_left]
theorem rowR_mem {X:Nat→RatD} {n:Nat} {u:Value}(hu:u∈rowR X n) : ∃i,u∈ratL (X i):=by
 simp only [rowR,List.mem_flatMap] at hu
 obtain⟨i,_,h⟩:=hu
 exact⟨i,h⟩
theorem rowR_ext {xs:List Value} {X:Nat→RatD} {n:Nat}(hl:xs.length=n*4)(h : ∀i j,i<n→j<4→xs[i*4+j]? = (ratL (X i))[j]?):xs=rowR X n:=by
 apply List.ext_getElem?
 intro j
 by_cases hj:j<n*4
 ·have e:j=j / 4*4+j % 4:=by omega
  have hq:j / 4<n := j0a
  have hr:j % 4<4 := j0a
  generalize j / 4=q at *
  generalize j % 4=r at *
  subst e
  rw [rowR_get _ hr n hq,h q r hq hr]
 ·rw [List.getElem?_eq_none j0a,List.getElem?_eq_none (by rw [rowR_len];omega)]
theorem rowR_congr {X Y:Nat→RatD} {n:Nat}(h : ∀i,i<n→X i=Y i):rowR X n=rowR Y n:=rowR_ext (rowR_len X n) fun i j hi hj=>by rw [rowR_get X hj n hi,h i hi]
def updR {α:Type}(X:Nat→α)(i:Nat)(x:α):Nat→α:=fun j=>if j=i then x else X j
theorem updR_at {α:Type}(X:Nat→α)(i:Nat)(x:α):updR X i x i=x:=by unfold updR;rw [if_pos rfl]
theorem updR_ne {α:Type}(X:Nat→α) {i j:Nat}(x:α)(h:j≠i):updR X i x j=X j:=by unfold updR;rw [if_neg h]
def appR {α:Type}(X:Nat→α)(n:Nat)(Y:Nat→α):Nat→α:=fun i=>if i<n then X i else Y (i - n)
theorem appR_lt {α:Type}(X:Nat→α)(n:Nat)(Y:Nat→α) {i:Nat}(h:i<n):appR X n Y i=X i:=by unfold appR;rw [if_pos h]
theorem appR_ge {α:Type}(X:Nat→α)(n:Nat)(Y:Nat→α)(i:Nat):appR X n Y (n+i)=Y i:=by unfold appR;rw [if_neg j0a,Nat.add_sub_cancel_left]
theorem rowR_app(X Y:Nat→RatD)(n:Nat) : ∀m,rowR (appR X n Y) (n+m)=rowR X n ++ rowR Y m
 | 0=>by
   rw [Nat.add_zero,show rowR Y 0 = [] from rfl,List.append_nil]
   exact rowR_congr fun i hi=>appR_lt _ _ _ hi
 |m+1=>by
  rw [← Nat.add_assoc,rowR_succ,rowR_app X Y n m,rowR_succ,List.append_assoc,appR_ge]
theorem rowR_upd {X:Nat→RatD} {i n:Nat}(hi:i<n)(x:RatD):((((rowR X n).set (i*4) (.bool x.b)).set (i*4+1) (.slice x.A x.n x.c)).set (i*4+2) (.bool x.b')).set (i*4+3) (.slice x.A' x.n' x.c')=rowR (updR X i x) n:=by
 have hlen:(rowR X n).length=n*4:=rowR_len X n
 refine rowR_ext (by simp [hlen]) fun q r hq hr=>?_
 by_cases hqi:q=i
 ·subst hqi
  rw [updR_at]
  have:r=0∨r=1∨r=2∨r=3 := j0a
  rcases this with rfl | rfl | rfl | rfl <;> simp [ratL,List.getElem?_set,hlen] <;> omega
 ·rw [List.getElem?_set_ne j0a,List.getElem?_set_ne j0a,List.getElem?_set_ne j0a,List.getElem?_set_ne j0a,rowR_get _ hr n hq,updR_ne _ _ hqi]
def OwnR(w:World)(base:Nat)(v:Value)(n:Nat)(X:Nat→RatD):Prop:=OwnN w base 36 4 v n (rowR X n)
def OwnT(w:World)(base:Nat)(v:Value)(m:Nat)(r:Nat→Value):Prop:=OwnN w base 22 1 v m ((List.range m).map r)
section
variable {w w':World} {base n m g c:Nat} {v:Value} {X:Nat→RatD} {r:Nat→Value}
theorem OwnR.below(h:OwnR w base v n X)(hb:Below w.heap.size w w'):OwnR w' base v n X:=OwnN.below h hb
theorem OwnT.below(h:OwnT w base v m r)(hb:Below w.heap.size w w'):OwnT w' base v m r:=OwnN.below h hb
theorem OwnR.alloc_(h:OwnR w base v n X)(o:Obj):OwnR (w.alloc o) base v n X:=h.below (below_new w o)
theorem OwnR.nil:OwnR w base (.slice none 0 0) 0 X:=OwnN.nil
theorem OwnR.at_(h:OwnR w base (.slice (some ⟨g,0,none⟩) n c) n X) {i:Nat}(hi:i<n):RatAt w ⟨g,i*4,none⟩ (X i):=by
 have cl : ∀j,j<4→w.cell? ⟨g,i*4+j,none⟩=(ratL (X i))[j]? := fun j hj=>by
  rw [OwnN.cellAt h (i*4+j) j0a]
  exact rowR_get X hj n hi
 obtain⟨_,_,cur,hc⟩:=OwnN.blk h
 exact⟨hc.lt,cl 0 j0a,cl 1 j0a,cl 2 j0a,cl 3 j0a⟩
theorem OwnR.rowAt(h:OwnR w base v n X) : ∃A c,v = .slice A n c∧Fits A n c∧RowAt w A n X∧∀a,A=some a→∃cs m,w.heap[a.block]? = some (.cells cs 36 m):=by
 rcases h.2 with ⟨rfl,rfl⟩ | ⟨g,cap,cur,rfl,h2,h3,h4,_⟩
 ·exact⟨none,0,rfl,⟨Nat.le_refl _,fun _=>rfl⟩,fun i hi=>absurd hi j0a,fun a e=>by cases e⟩
 ·refine⟨some ⟨g,0,none⟩,cap,rfl,⟨h4,fun e=>by cases e⟩,fun i hi=>⟨_,rfl,?_⟩,fun a e=>?_⟩
  ·rw [add_mk,Nat.zero_add];exact OwnR.at_ h hi
  ·injection e with e;subst e;exact⟨_,_,h3⟩
theorem OwnR.rowT {p:Bool} {k:Nat} {f:Nat→Rat}(h:OwnR w base v n X)(hn:n≤1000000)(hf : ∀i,i<n→EQ p k w (X i).val (f i)):RowT p k w v n f:=by
 obtain⟨A,c,h1,h2,h3,h4⟩:=h.rowAt
 exact⟨A,c,X,h1,h2,hn,h3,hf,h4⟩
theorem OwnR.congr {Y:Nat→RatD}(h:OwnR w base v n X)(he : ∀i,i<n→X i=Y i):OwnR w base v n Y:=by
 unfold OwnR at *
 rw [← rowR_congr he]
 exact h
theorem OwnR.set4(h:OwnR w base (.slice (some ⟨g,0,none⟩) n c) n X) {i:Nat}(hi:i<n)(x:RatD) {W:World}
 (hW:W=(((w.setCell ⟨g,i*4,none⟩ (.bool x.b)).setCell ⟨g,i*4+1,none⟩ (.slice x.A x.n x.c)).setCell ⟨g,i*4+2,none⟩ (.bool x.b')).setCell ⟨g,i*4+3,none⟩ (.slice x.A' x.n' x.c')) :
 OwnR W base (.slice (some ⟨g,0,none⟩) n c) n (updR X i x)∧Fz base 36 w W∧W.heap.size=w.heap.size:=by
 subst hW
 unfold OwnR at *
 rw [← rowR_upd hi x]
 have h1:=OwnN.stored h (i*4) (.bool x.b) nu
 have h2:=OwnN.stored h1.1 (i*4+1) (.slice x.A x.n x.c) nu
 have h3:=OwnN.stored h2.1 (i*4+2) (.bool x.b') nu
 have h4:=OwnN.stored h3.1 (i*4+3) (.slice x.A' x.n' x.c') nu
 exact⟨h4.1,((h1.2.trans h2.2).trans h3.2).trans h4.2,by simp [World.setCell]⟩
theorem OwnR.spot(h:OwnR w base (.slice (some ⟨g,0,none⟩) n c) n X) {i:Nat}(hi:i<n):g<w.heap.size∧w.cell? ⟨g,i*4,none⟩=some (.bool (X i).b)∧w.cell? ⟨g,i*4+1,none⟩=some (.slice (X i).A (X i).n (X i).c)∧w.cell? ⟨g,i*4+2,none⟩=some (.bool (X i).b')∧w.cell? ⟨g,i*4+3,none⟩=some (.slice (X i).A' (X i).n' (X i).c')∧
 w.frozen? ⟨g,i*4,none⟩=false∧w.frozen? ⟨g,i*4+1,none⟩=false∧w.frozen? ⟨g,i*4+2,none⟩=false∧w.frozen? ⟨g,i*4+3,none⟩=false:=by
 obtain⟨h0,h1,h2,h3,h4⟩:=h.at_ hi
 exact⟨h0,h1,h2,h3,h4,OwnN.frozenAt h _,OwnN.frozenAt h _,OwnN.frozenAt h _,OwnN.frozenAt h _⟩
theorem OwnT.at_(h:OwnT w base (.slice (some ⟨g,0,none⟩) m c) m r) {i:Nat}(hi:i<m):w.cell? ⟨g,i,none⟩=some (r i):=by
 rw [OwnN.cellAt h i j0a]
 simp [hi]
theorem OwnT.lt(h:OwnT w base (.slice (some ⟨g,0,none⟩) m c) m r):g<w.heap.size:=by
 obtain⟨_,_,cur,hc⟩:=OwnN.blk h
 exact hc.lt
theorem OwnT.set1(h:OwnT w base (.slice (some ⟨g,0,none⟩) m c) m r) {i:Nat}(hi:i<m) {u:Value}(hu:Nu u) {W:World}(hW:W=w.setCell ⟨g,i,none⟩ u) :
 OwnT W base (.slice (some ⟨g,0,none⟩) m c) m (updR r i u)∧Fz base 22 w W∧W.heap.size=w.heap.size:=by
 subst hW
 unfold OwnT at *
 have h1:=OwnN.stored h i u hu
 refine⟨?_,h1.2,by simp [World.setCell]⟩
 have e:((List.range m).map r).set i u=(List.range m).map (updR r i u):=by
  apply List.ext_getElem?
  intro j
  by_cases hj:j=i
  ·subst hj
   simp [hi,updR_at]
  ·rw [List.getElem?_set_ne (fun e=>hj e.symm)]
   by_cases hjm:j<m
   ·simp [hjm,updR_ne _ _ hj]
   ·simp [hjm]
 rw [← e]
 exact h1.1
theorem OwnT.congr {r':Nat→Value}(h:OwnT w base v m r)(he : ∀i,i<m→r i=r' i):OwnT w base v m r':=by
 unfold OwnT at *
 rw [← List.map_congr_left (fun i hi=>he i (by simpa using hi))]
 exact h
theorem OwnT.tabQ {p:Bool} {k:Nat} {L:Nat→Nat} {F:Nat→Nat→Rat}(h:OwnT w base v m r)(hm:m≤1000000)(hr : ∀i,i<m→RowT p k w (r i) (L i) (F i)):TabQ p k w v m L F:=by
 rcases h.2 with ⟨rfl,rfl⟩ | ⟨g,cap,cur,rfl,h2,h3,h4,_⟩
 ·exact⟨none,0,rfl,⟨Nat.le_refl _,fun _=>rfl⟩,by omega,fun i hi=>absurd hi j0a⟩
 ·refine⟨some ⟨g,0,none⟩,cap,rfl,⟨h4,fun e=>by cases e⟩,hm,fun i hi=>⟨_,_,rfl,h3.lt,?_,(hr i hi).rowQ⟩⟩
  rw [add_mk,Nat.zero_add];exact OwnT.at_ h hi
end
section
variable {P:Program} {w:World} {ops:Array Oper} {rest:List Oper} {o:Oper} {a:Act} {Q:Exit→Act→World→Prop}
theorem run_make_ownN(base:Nat)(t e:TypeId)(z:Value)(size bytes:Nat)(ht:P.underlying t=some (.slice e))(hinfo:(P.info? e).map (fun i=>(i.zero,i.size,i.bytes))=some (some z,size,bytes))(hzs:z.cells.size=size)(hsz:0<size)(hzn : ∀u∈z.cells.toList,Nu u)
 (kl kc:IntKind) (n:Nat) (hbytes:bytes*n≤281474976710656) (h63:n≤maxLen) (hbase:base≤w.heap.size) :
 ∃w',(Instr.makeSlice t (.int kl (n:Int)) (.int kc (n:Int))).run P w = .ok (.slice (some ⟨w.heap.size,0,none⟩) n n) w'∧
  OwnN w' base e size (.slice (some ⟨w.heap.size,0,none⟩) n n) n (madeCells z.cells (n*size)).toList∧Below w.heap.size w w'∧w'.heap.size=w.heap.size+1:=by
 obtain⟨i,hi,hz,hs,hby⟩:=info_parts hinfo
 subst hs
 subst hby
 have h63':(n:Int)≤9223372036854775807:=by
  have h:=h63
  simp [maxLen] at h
  omega
 have hb':(i.bytes:Int)*(n:Int)≤281474976710656:=by
  have h:((i.bytes*n:Nat):Int)≤281474976710656 := j0a
  rwa [Int.natCast_mul] at h
 have hr:=run_make (P:=P) w t e i z ht hi hz kl kc n n j0a (Int.le_refl _) hb' h63'
 simp only [Int.toNat_natCast] at hr
 refine⟨_,hr,⟨by simp [size_madeCells],.inr ⟨w.heap.size,n,_,rfl,hbase,heap_alloc_new w _,Nat.le_refl _,h63,size_madeCells _ _,List.take_of_length_le (by simp [size_madeCells]),fun u hu=>?_⟩⟩,below_new _ _,by simp⟩
 simp [madeCells] at hu
 obtain⟨j,hj,hu⟩:=hu
 have hlt:=Nat.mod_lt j (show z.cells.size > 0 by omega)
 rw [getElem!_pos z.cells (j % z.cells.size) hlt] at hu
 exact hzn u (by rw [← hu];simp)
theorem wpList_make_rats(hP:P=Tryz.prog)(hg:o.guard=none)(l c:Operand)(hop:o.op=Op.makeSlice 22 l c)(base:Nat)
 (kl kc:IntKind) (L C:Int) (n:Nat) (hl:a.eval l = .int kl L) (hc:a.eval c = .int kc C) (hL:L=(n:Int)) (hC:C=(n:Int)) (hn:n≤1000000) (hbase:base≤w.heap.size)
 (hK : ∀w',OwnR w' base (.slice (some ⟨w.heap.size,0,none⟩) n n) n (fun _=>ratZ)→Below w.heap.size w w'→w'.heap.size=w.heap.size+1→wpList P ops Q rest (a.put o.dst (.slice (some ⟨w.heap.size,0,none⟩) n n)) w') :
 wpList P ops Q (o :: rest) a w:=by
 subst hP
 refine wpList_plain hg fun K hK'=>?_
 subst hL
 subst hC
 obtain⟨w',hrun,h1,h2,h3⟩:=run_make_ownN (P:=Tryz.prog) (w:=w) base 22 36 ratZ.val 4 64 Tryz.underlying22 rat_info rfl j0a (ratL_nu ratZ) kl kc n j0a j07 hbase
 unfold Oper.wp
 simp [execOp,hop,hl,hc,hrun,Result.andThen]
 refine hK' _ _ (hK _ ?_ h2 h3)
 have e:(madeCells ratZ.val.cells (n*4)).toList=rowR (fun _=>ratZ) n:=by
  refine rowR_ext (by simp [size_madeCells]) fun i j hi hj=>?_
  have hlt:i*4+j<n*4 := j0a
  have:j=0∨j=1∨j=2∨j=3 := j0a
  simp only [madeCells,Array.toList_map,List.getElem?_map,Array.toList_range,List.getElem?_range hlt,Option.map_some]
  rcases this with rfl | rfl | rfl | rfl
  ·rw [show(i*4+0) % ratZ.val.cells.size=0 from by show(i*4+0) % 4=0;omega];rfl
  ·rw [show(i*4+1) % ratZ.val.cells.size=1 from by show(i*4+1) % 4=1;omega];rfl
  ·rw [show(i*4+2) % ratZ.val.cells.size=2 from by show(i*4+2) % 4=2;omega];rfl
  ·rw [show(i*4+3) % ratZ.val.cells.size=3 from by show(i*4+3) % 4=3;omega];rfl
 unfold OwnR
 rw [← e]
 exact h1
theorem run_append_rats(ty:TypeId) {base n m c:Nat} {v:Value} {X Y:Nat→RatD} {A:Option Addr}(hown:OwnR w base v n X)(hY:RowAt w A m Y)(hA:A=none→m=0∧c=0)(hnm:n+m≤1000000)(hbase:base≤w.heap.size) :
 ∃v' w',(Builtin.append_ #[22,22] ty #[v,.slice A m c]).run Tryz.prog w = .ok v' w'∧OwnR w' base v' (n+m) (appR X n Y)∧Fz base 36 w w':=by
 obtain⟨i,hi,hz,hs,hby⟩:=info_parts rat_info
 cases A with
 |none =>
  obtain⟨rfl,rfl⟩:=hA rfl
  refine⟨v,w,run_append_owned_none (P:=Tryz.prog) (w:=w) base 22 ty 36 i 4 Tryz.underlying22 hi v n _ (OwnN.own hown),?_,Fz.refl⟩
  exact OwnR.congr hown fun i hi=>(appR_lt _ _ _ hi).symm
 |some ad =>
  obtain⟨v',w',h1,h2,h3⟩:=run_append_ownN (P:=Tryz.prog) ty 22 36 i ratZ.val 4 64 Tryz.underlying22 hi hz hs hby rfl j0a (ratL_nu ratZ) hown ad m c (rowR Y m) (rowR_len Y m) (fun j u hu=>by
   have hj:j<m*4:=by
    rcases Nat.lt_or_ge j (m*4) with h1 | h1
    ·exact h1
    ·rw [List.getElem?_eq_none (by rw [rowR_len];exact h1)] at hu;cases hu
   have e:j=j / 4*4+j % 4 := j0a
   have hi:j / 4<m := j0a
   have hr:j % 4<4 := j0a
   generalize j / 4=q at *
   generalize j % 4=r at *
   subst e
   rw [rowR_get Y hr m hi] at hu
   obtain⟨ad',e',p0,p1,p2,p3,p4⟩:=hY q hi
   injection e' with e'
   subst e'
   have hcl : ∀j,j≠0→(⟨(ad.add (q*4)).block,(ad.add (q*4)).off+j,none⟩:Addr)=(ad.add (q*4)).add j:=fun j hj=>by
    generalize ad.add (q*4)=b
    unfold Addr.add
    rw [if_neg hj]
   rw [← add_add]
   have:r=0∨r=1∨r=2∨r=3 := j0a
   rcases this with rfl | rfl | rfl | rfl <;> simp [ratL] at hu <;> subst hu
   ·exact p1
   ·rw [← hcl 1 j0a];exact p2
   ·rw [← hcl 2 j0a];exact p3
   ·rw [← hcl 3 j0a];exact p4)
   (fun u hu=>by obtain⟨i,h⟩:=rowR_mem hu;exact ratL_one _ u h) (fun u hu=>by obtain⟨i,h⟩:=rowR_mem hu;exact ratL_nu _ u h) j07 j0a hbase
  exact⟨v',w',h1,by unfold OwnR;rw [rowR_app];exact h2,h3⟩
theorem wpList_append_rats(hP:P=Tryz.prog)(hgd:o.guard=none)(s x:Operand)(ho:o.op = .call { callee := .builtin .append,args := #[s,x],argTypes := #[22,22] })
 {base n m c:Nat} {v:Value} {X Y:Nat→RatD} {A:Option Addr} (hs:a.eval s=v) (hown:OwnR w base v n X) (hx:a.eval x = .slice A m c) (hY:RowAt w A m Y) (hA:A=none→m=0∧c=0) (hnm:n+m≤1000000) (hbase:base≤w.heap.size)
 (h : ∀v' w',OwnR w' base v' (n+m) (appR X n Y)→Fz base 36 w w'→wpList P ops Q rest (a.put o.dst v') w'):wpList P ops Q (o :: rest) a w:=by
 subst hP
 obtain⟨v',w',h1,h2,h3⟩:=run_append_rats (w:=w) o.type hown hY hA hnm hbase
 exact Go.Lib.wpList_append_run w hgd s x _ _ ho v _ hs hx v' w' h1 (h v' w' h2 h3)
theorem run_append_rows(ty:TypeId) {base n m c:Nat} {v:Value} {r s:Nat→Value} {A:Option Addr}(hown:OwnT w base v n r)(hs : ∀i,i<m→∃ad,A=some ad∧w.cell? (ad.add i)=some (s i))(hsl : ∀i,i<m→∃A n c,s i = .slice A n c)(hA:A=none→m=0∧c=0)(hnm:n+m≤1000000)(hbase:base≤w.heap.size) :
 ∃v' w',(Builtin.append_ #[29,29] ty #[v,.slice A m c]).run Tryz.prog w = .ok v' w'∧OwnT w' base v' (n+m) (appR r n s)∧Fz base 22 w w':=by
 obtain⟨i,hi,hz,hs',hby⟩:=info_parts rrow_info
 cases A with
 |none =>
  obtain⟨rfl,rfl⟩:=hA rfl
  refine⟨v,w,run_append_owned_none (P:=Tryz.prog) (w:=w) base 29 ty 22 i 1 Tryz.underlying29 hi v n _ (OwnN.own hown),?_,Fz.refl⟩
  exact OwnT.congr hown fun i hi=>(appR_lt _ _ _ hi).symm
 |some ad =>
  have hmem : ∀u∈(List.range m).map s,∃A n c,u = .slice A n c:=fun u hu=>by
   simp at hu
   obtain⟨i,hi,rfl⟩:=hu
   exact hsl i hi
  obtain⟨v',w',h1,h2,h3⟩:=run_append_ownN (P:=Tryz.prog) ty 29 22 i (.slice none 0 0) 1 24 Tryz.underlying29 hi hz hs' hby rfl j0a (fun u hu=>by simp [Value.cells] at hu;subst hu;exact nu) hown ad m c ((List.range m).map s) j0b (fun j u hu=>by
   have hj:j<m:=by
    rcases Nat.lt_or_ge j m with h1 | h1
    ·exact h1
    ·rw [List.getElem?_eq_none (by simpa using h1)] at hu;cases hu
   simp [hj] at hu
   subst hu
   obtain⟨ad',e',h⟩:=hs j hj
   injection e' with e'
   subst e'
   exact h)
   (fun u hu=>by obtain⟨A,n,c,rfl⟩:=hmem u hu;rfl) (fun u hu=>by obtain⟨A,n,c,rfl⟩:=hmem u hu;exact nu) j07 j0a hbase
  refine⟨v',w',h1,?_,h3⟩
  have e:(List.range n).map r ++ (List.range m).map s=(List.range (n+m)).map (appR r n s):=by
   apply List.ext_getElem?
   intro j
   by_cases hj:j<n
   ·rw [List.getElem?_append_left (by simpa using hj)]
    simp [hj,show j<n+m from by omega,appR]
   ·rw [List.getElem?_append_right j0j]
    by_cases hj2:j<n+m
    ·simp [show j - n<m from by omega,hj2,appR,hj]
    ·simp [show ¬j - n<m from by omega,hj2]
  unfold OwnT
  rw [← e]
  exact h2
theorem wpList_append_rows(hP:P=Tryz.prog)(hgd:o.guard=none)(s x:Operand)(ho:o.op = .call { callee := .builtin .append,args := #[s,x],argTypes := #[29,29] })
 {base n m c:Nat} {v:Value} {r t:Nat→Value} {A:Option Addr} (hs:a.eval s=v) (hown:OwnT w base v n r) (hx:a.eval x = .slice A m c) (ht : ∀i,i<m→∃ad,A=some ad∧w.cell? (ad.add i)=some (t i)) (hsl : ∀i,i<m→∃A n c,t i = .slice A n c) (hA:A=none→m=0∧c=0) (hnm:n+m≤1000000) (hbase:base≤w.heap.size)
 (h : ∀v' w',OwnT w' base v' (n+m) (appR r n t)→Fz base 22 w w'→wpList P ops Q rest (a.put o.dst v') w'):wpList P ops Q (o :: rest) a w:=by
 subst hP
 obtain⟨v',w',h1,h2,h3⟩:=run_append_rows (w:=w) o.type hown ht hsl hA hnm hbase
 exact Go.Lib.wpList_append_run w hgd s x _ _ ho v _ hs hx v' w' h1 (h v' w' h2 h3)
end
end Go.Proofs.YtgilnmhejjpleaaGreat
