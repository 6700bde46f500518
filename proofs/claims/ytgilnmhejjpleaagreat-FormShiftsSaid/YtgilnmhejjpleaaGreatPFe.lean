/- Contract of prob: May. -/
import Derived.Test.YtgilnmhejjpleaaGreatPFd
namespace Go.Proofs.YtgilnmhejjpleaaGreat
open Go.RowKit
attribute [local go_sem ↓] Go.wp_at_zero Go.wp_at_succ
set_option linter.unusedVariables false
set_option linter.unusedSimpArgs false
theorem jy4i {P:Prop}(h:P:=by first | exact HTQ.out | exact HTQ.out.drew_):P:=h
def RowF(k:Nat)(w0 w:World)(v:Value)(r:RowX):Prop:=RowN k w0 v r∨(RowN k w v r∧∀A n c a,v = .slice A n c→A=some a→∃cs m,w.heap[a.block]? = some (.cells cs 36 m))
section
variable {k:Nat} {w0 w w':World} {v:Value} {r:RowX} {base:Nat}
theorem RowF.rowN(h:RowF k w0 w v r)(hb:Below w0.heap.size w0 w):RowN k w v r:=by
 rcases h with h | ⟨h,_⟩
 ·exact h.below hb
 ·exact h
theorem RowF.below(h:RowF k w0 w v r)(hb:Below w.heap.size w w'):RowF k w0 w' v r:=by
 rcases h with h | ⟨h,ht⟩
 ·exact .inl h
 ·refine .inr ⟨h.below hb,fun A n c a e1 e2=>?_⟩
  obtain⟨cs,m,hc⟩:=ht A n c a e1 e2
  exact⟨cs,m,(hb.block _ (Array.getElem?_eq_some_iff.1 hc).1).trans hc⟩
theorem RowF.fz(h:RowF k w0 w v r)(hf:Fz base 22 w w'):RowF k w0 w' v r:=by
 rcases h with h | ⟨h,ht⟩
 ·exact .inl h
 ·obtain⟨A,c,X,rfl,h1,h2,h3,h4⟩:=h
  have hk : ∀a,A=some a→w'.heap[a.block]? = w.heap[a.block]? := fun a e=>by
   obtain⟨cs,m,hc⟩:=ht _ _ _ a rfl e
   rw [hc]
   exact hf.other _ _ hc (fun cs m e=>by injection e with _ e _;exact absurd e jpu1)
  refine .inr ⟨⟨A,c,X,rfl,h1,h2,fun i hi=>?_,fun i hi=>(h4 i hi).kp hf.keep⟩,fun A' n' c' a e1 e2=>?_⟩
  ·obtain⟨ad,e,ha⟩:=h3 i hi
   exact⟨ad,e,ha.of_block (by rw [add_block];exact hk ad e)⟩
  ·obtain⟨cs,m,hc⟩:=ht _ _ _ a e1 e2
   injection e1 with e1
   subst e1
   exact⟨cs,m,(hk a e2).trans hc⟩
theorem rowF_one(k:Nat)(w0 w:World)(g:Nat)(hg:g=w.heap.size)(x:RatD) {X Y:Int}(h:LimR k w x.val X Y):RowF k w0 (w.alloc (.cells #[.bool x.b,.slice x.A x.n x.c,.bool x.b',.slice x.A' x.n' x.c'] 36)) (.slice (some ⟨g,0,none⟩) 1 1) ⟨1,fun _=>X,fun _=>Y⟩:=by
 have hB:=Blk.new w g hg 36 #[.bool x.b,.slice x.A x.n x.c,.bool x.b',.slice x.A' x.n' x.c']
 obtain⟨c0,c1,c2,c3,cl⟩:=hB.use4
 refine .inr ⟨⟨_,1,fun _=>x,rfl,⟨Nat.le_refl _,fun e=>by cases e⟩,by show 1≤1000000;omega,fun i hi=>?_,fun i hi=>h.below (below_new _ _)⟩,fun A n c a e1 e2=>?_⟩
 ·have hi:i<1:=hi
  obtain rfl:i=0 := j0i3
  exact⟨_,rfl,cl,c0,c1,c2,c3⟩
 ·injection e1 with e1
  rw [e2] at e1
  injection e1 with e1
  subst e1
  exact⟨_,_,hB⟩
theorem own_new(w:World)(base g:Nat)(hg:g=w.heap.size)(hb:base≤g)(n:Nat)(hn:n≤1000)(vs:Array Value)(hs:vs.size=n)(r:Nat→Value)(hr:vs.toList=(List.range n).map r)(hu : ∀u∈vs.toList,Nu u):OwnT (w.alloc (.cells vs 22)) base (.slice (some ⟨g,0,none⟩) n n) n r:=by
 refine⟨by simp,.inr ⟨g,n,vs,rfl,hb,Blk.new w g hg _ _,Nat.le_refl _,by simp only [maxLen];omega,by omega,?_,hu⟩⟩
 rw [Nat.mul_one,List.take_of_length_le jb6b,hr]
theorem OwnT.tabN {R:Nat→RowX} {m:Nat} {rv:Nat→Value}(h:OwnT w base v m rv)(hm:m≤1000000)(hr : ∀i,i<m→RowN k w (rv i) (R i)):TabN k w v m R:=by
 rcases h.2 with ⟨rfl,rfl⟩ | ⟨g,cap,cur,rfl,h2,h3,h4,_⟩
 ·exact⟨none,0,rfl,⟨Nat.le_refl _,fun _=>rfl⟩,by omega,fun i hi=>absurd hi j0i3⟩
 ·refine⟨some ⟨g,0,none⟩,cap,rfl,⟨h4,fun e=>by cases e⟩,hm,fun i hi=>⟨_,_,rfl,h3.lt,?_,hr i hi⟩⟩
  rw [add_mk,Nat.zero_add];exact OwnT.at_ h hi
end
theorem Blk.fz {w w':World} {g base:Nat} {t t':TypeId} {cs:Array Value}(h:Blk w g t cs)(hf:Fz base t' w w')(hne:t≠t'):Blk w' g t cs:=hf.other _ _ h (fun cs m e=>by injection e with _ e _;exact hne e)
theorem two_rows(w:World)(o:Obj)(a b:Value) : ∀j,j<2→∃ad,(some ⟨w.heap.size+1,0,none⟩:Option Addr)=some ad∧((w.alloc o).alloc (.cells #[a,b] 22)).cell? (ad.add j)=some ((fun j=>if j=0 then a else b) j):=fun j hj=>by
 have h:=Blk.new (w.alloc o) (w.heap.size+1) jupy 22 #[a,b]
 refine⟨_,rfl,?_⟩
 rw [add_mk,Nat.zero_add]
 have:j=0∨j=1 := j0i3
 rcases this with rfl | rfl
 ·exact h.cell 0
 ·exact h.cell 1
theorem two_sl(A:Option Addr)(n c:Nat)(B:Option Addr)(m d:Nat) : ∀j,j<2→∃A' n' c',(fun j=>if j=0 then Value.slice A n c else .slice B m d) j = .slice A' n' c':=fun j hj=>by
 by_cases h:j=0
 ·exact⟨A,n,c,by simp [h]⟩
 ·exact⟨B,m,d,by simp [h]⟩
theorem lrect_is {p:Bool} {k m:Nat} {w:World} {v:Value} {Ln:Nat→Nat} {F:Nat→Nat→Rat} {N:Int} {r:Bool}(h:TabQ p k w v m Ln F)(hr:r=true↔∀i,i<m→(Ln i:Int)=N) :
 Calls Tryz.prog 48 #[v,.int .i64 N] w fun e w'=>e = .returned (.bool r)∧w'=w:=(lrect h).mono fun e w' ⟨⟨b,e1,h1⟩,h2⟩=>⟨by rw [e1,Bool.eq_iff_iff.2 (h1.trans hr.symm)],h2⟩
theorem RwN.len {k:Nat} {w:World} {x:Rw6} {r:RwX}(h:RwN k w x r):x.n=r.coef.n:=by
 obtain⟨A,c,e,_⟩:=h.2.2.1.len
 injection e
def mayR(p:LpX)(j:Nat):RowX :=
 if j=0 then p.cost else if j=1 then p.lo else if j=2 then p.hi else if (j - 3) % 2=0 then (p.row ((j - 3) / 2)).coef else ⟨1,fun _=>(p.row ((j - 3) / 2)).ha,fun _=>(p.row ((j - 3) / 2)).hb⟩
theorem mayR_c(p:LpX)(i:Nat):mayR p (3+2*i)=(p.row i).coef:=by
 unfold mayR
 rw [if_neg j0i3,if_neg j0i3,if_neg j0i3,if_pos j0i3,show(3+2*i - 3) / 2=i by omega]
theorem mayR_h(p:LpX)(i:Nat):mayR p (3+2*i+1)=⟨1,fun _=>(p.row i).ha,fun _=>(p.row i).hb⟩:=by
 unfold mayR
 rw [if_neg j0i3,if_neg j0i3,if_neg j0i3,if_neg j0i3,show(3+2*i+1 - 3) / 2=i by omega]
theorem mayR_all {p:LpX} {m:Nat} : (∀j,j<3+2*m→(mayR p j).mays)↔(p.cost.mays∧p.lo.mays∧p.hi.mays)∧∀i,i<m→(p.row i).coef.mays∧0<(p.row i).hb:=by
 constructor
 ·intro h
  refine⟨⟨h 0 j0i3,h 1 j0i3,h 2 j0i3⟩,fun i hi=>⟨?_,?_⟩⟩
  ·have:=h (3+2*i) j0i3
   unfold mayR at this
   rw [if_neg j0i3,if_neg j0i3,if_neg j0i3,if_pos j0i3,show(3+2*i - 3) / 2=i by omega] at this
   exact this
  ·have:=h (3+2*i+1) j0i3
   unfold mayR at this
   rw [if_neg j0i3,if_neg j0i3,if_neg j0i3,if_neg j0i3,show(3+2*i+1 - 3) / 2=i by omega] at this
   exact this 0 (by show 0<1;omega)
 ·rintro⟨⟨h0,h1,h2⟩,h3⟩ j hj
  unfold mayR
  split
  ·exact h0
  ·split
   ·exact h1
   ·split
    ·exact h2
    ·split
     ·exact(h3 _ j0i3).1
     ·exact fun _ _=>(h3 _ j0i3).2
set_option maxRecDepth 100000 in
set_option maxHeartbeats 1000000 in
theorem pmay_a {k:Nat} {w:World} {v:Value} {p:LpX}(h:LpQ k w v p)(hk:k≤20000)(h1:1≤k)(hn:p.cost.n<1) :
 Calls Tryz.prog 15 #[v] w fun e w'=>e = .returned (.bool false)∧Below w.heap.size w w':=by
 have d1:decide ((p.cost.n:Int)<1)=true:=decide_eq_true j0i3
 have n1:((p.cost.n:Int)<1)=True:=eq_true j0i3
 obtain⟨Ac,cc,Ar,cr,Al,cl,Ah,ch,Ao,co,rfl,hqc,hqr,hql,hqh,hqo,g1,g2,g3,g4,g5⟩:=h.form
 clear h
 have HP:=Lib.hid (show LpQ k w (.agg #[.slice Ac p.cost.n cc,.slice Ar p.m cr,.slice Al p.lo.n cl,.slice Ah p.hi.n ch,.slice Ao p.no co]) p from⟨_,_,_,_,_,rfl,hqc,hqr,hql,hqh,hqo⟩)
 have HCq:=Lib.hid hqc
 have HRq:=Lib.hid hqr
 have HLq:=Lib.hid hql
 have HHq:=Lib.hid hqh
 clear hqc hqr hql hqh hqo
 go_enter Tryz.func15,Tryz.ntmps15
 go_wp2
 go_ret
 exact⟨rfl,below_trans (below_new _ _) (below_new _ _)⟩
set_option maxRecDepth 100000 in
set_option maxHeartbeats 1000000 in
theorem pmay_b {k:Nat} {w:World} {v:Value} {p:LpX}(h:LpQ k w v p)(hk:k≤20000)(h1:1≤k)(hn:24<p.cost.n) :
 Calls Tryz.prog 15 #[v] w fun e w'=>e = .returned (.bool false)∧Below w.heap.size w w':=by
 have d1:decide ((p.cost.n:Int)<1)=false:=decide_eq_false j0i3
 have n1:((p.cost.n:Int)<1)=False:=eq_false j0i3
 have d2:decide ((p.cost.n:Int) > 24)=true:=decide_eq_true j0i3
 have n2:(24<(p.cost.n:Int))=True:=eq_true j0i3
 obtain⟨Ac,cc,Ar,cr,Al,cl,Ah,ch,Ao,co,rfl,hqc,hqr,hql,hqh,hqo,g1,g2,g3,g4,g5⟩:=h.form
 clear h
 have HP:=Lib.hid (show LpQ k w (.agg #[.slice Ac p.cost.n cc,.slice Ar p.m cr,.slice Al p.lo.n cl,.slice Ah p.hi.n ch,.slice Ao p.no co]) p from⟨_,_,_,_,_,rfl,hqc,hqr,hql,hqh,hqo⟩)
 have HCq:=Lib.hid hqc
 have HRq:=Lib.hid hqr
 have HLq:=Lib.hid hql
 have HHq:=Lib.hid hqh
 clear hqc hqr hql hqh hqo
 go_enter Tryz.func15,Tryz.ntmps15
 go_wp2
 go_ret
 exact⟨rfl,below_trans (below_new _ _) (below_new _ _)⟩
set_option maxRecDepth 100000 in
set_option maxHeartbeats 1000000 in
theorem pmay_c {k:Nat} {w:World} {v:Value} {p:LpX}(h:LpQ k w v p)(hk:k≤20000)(h1:1≤k)(hn1:1≤p.cost.n)(hn2:p.cost.n≤24)(hn:p.no≠p.cost.n) :
 Calls Tryz.prog 15 #[v] w fun e w'=>e = .returned (.bool false)∧Below w.heap.size w w':=by
 have d1:decide ((p.cost.n:Int)<1)=false:=decide_eq_false j0i3
 have n1:((p.cost.n:Int)<1)=False:=eq_false j0i3
 have d2:decide ((p.cost.n:Int) > 24)=false:=decide_eq_false j0i3
 have n2:(24<(p.cost.n:Int))=False:=eq_false j0i3
 have hno:((p.no:Int) == (p.cost.n:Int))=false := jyif
 have hno2 : ¬ ((p.no:Int)=(p.cost.n:Int)) := j0i3
 obtain⟨Ac,cc,Ar,cr,Al,cl,Ah,ch,Ao,co,rfl,hqc,hqr,hql,hqh,hqo,g1,g2,g3,g4,g5⟩:=h.form
 clear h
 have HP:=Lib.hid (show LpQ k w (.agg #[.slice Ac p.cost.n cc,.slice Ar p.m cr,.slice Al p.lo.n cl,.slice Ah p.hi.n ch,.slice Ao p.no co]) p from⟨_,_,_,_,_,rfl,hqc,hqr,hql,hqh,hqo⟩)
 have HCq:=Lib.hid hqc
 have HRq:=Lib.hid hqr
 have HLq:=Lib.hid hql
 have HHq:=Lib.hid hqh
 clear hqc hqr hql hqh hqo
 go_enter Tryz.func15,Tryz.ntmps15
 go_wp2
 go_ret
 exact⟨rfl,below_trans (below_new _ _) (below_new _ _)⟩
set_option maxRecDepth 100000 in
set_option maxHeartbeats 1000000 in
theorem pmay_d {k:Nat} {w:World} {v:Value} {p:LpX}(h:LpQ k w v p)(hk:k≤20000)(h1:1≤k)(hn1:1≤p.cost.n)(hn2:p.cost.n≤24)(hn3:p.no=p.cost.n)(hn : ¬ (p.lo.n=p.cost.n∧p.hi.n=p.cost.n)) :
 Calls Tryz.prog 15 #[v] w fun e w'=>e = .returned (.bool false)∧Below w.heap.size w w':=by
 obtain⟨Ac,cc,Ar,cr,Al,cl,Ah,ch,Ao,co,rfl,hqc,hqr,hql,hqh,hqo,g1,g2,g3,g4,g5⟩:=h.form
 clear h
 have eo:Value.slice Ao p.no co = .slice Ao p.cost.n co:=by rw [hn3]
 have HP:=Lib.hid (show LpQ k w (.agg #[.slice Ac p.cost.n cc,.slice Ar p.m cr,.slice Al p.lo.n cl,.slice Ah p.hi.n ch,.slice Ao p.no co]) p from⟨_,_,_,_,_,rfl,hqc,hqr,hql,hqh,hqo⟩)
 have HP:=Lib.hid (eo▸HP.out)
 rw [eo]
 have H3:=Lib.hid hn3
 clear hn3 eo
 have HCq:=Lib.hid hqc
 have HRq:=Lib.hid hqr
 have HLq:=Lib.hid hql
 have HHq:=Lib.hid hqh
 clear hqc hqr hql hqh hqo
 go_enter Tryz.func15,Tryz.ntmps15
 have HT3 : ∀W,Below w.heap.size w W→OwnT W w.heap.size (.slice (some ⟨w.heap.size+1,0,none⟩) 3 3) 3 (fun j=>if j=0 then .slice Ac p.cost.n cc else if j=1 then .slice Al p.lo.n cl else .slice Ah p.hi.n ch)→TabQ false k W (.slice (some ⟨w.heap.size+1,0,none⟩) 3 3) 3 (fun i=>(mayR p i).n) (fun i=>(mayR p i).q):=fun W hb ho=>by
  refine TabN.tabQ (R:=mayR p) (ho.tabN j0i3 fun i hi=>?_)
  have:i=0∨i=1∨i=2 := j0i3
  rcases this with rfl | rfl | rfl
  ·exact HCq.out.below hb
  ·exact HLq.out.below hb
  ·exact HHq.out.below hb
 have hlen3:(∀i,i<3→((mayR p i).n:Int)=(p.cost.n:Int))↔(p.lo.n=p.cost.n∧p.hi.n=p.cost.n):=by
  constructor
  ·intro h
   have h1:=h 1 j0i3
   have h2:=h 2 j0i3
   have e1:(mayR p 1).n=p.lo.n:=rfl
   have e2:(mayR p 2).n=p.hi.n:=rfl
   rw [e1] at h1
   rw [e2] at h2
   exact⟨by omega,by omega⟩
  ·rintro⟨h1,h2⟩ i hi
   have:i=0∨i=1∨i=2 := j0i3
   rcases this with rfl | rfl | rfl
   ·rfl
   ·show(p.lo.n:Int)=_;omega
   ·show(p.hi.n:Int)=_;omega
 have HOW:OwnT ((w.alloc (.cells #[.slice Ac p.cost.n cc,.slice Ar p.m cr,.slice Al p.lo.n cl,.slice Ah p.hi.n ch,.slice Ao p.cost.n co] 26)).alloc (.cells #[.slice Ac p.cost.n cc,.slice Al p.lo.n cl,.slice Ah p.hi.n ch] 22)) w.heap.size (.slice (some ⟨w.heap.size+1,0,none⟩) 3 3) 3 (fun j=>if j=0 then .slice Ac p.cost.n cc else if j=1 then .slice Al p.lo.n cl else .slice Ah p.hi.n ch):=own_new _ _ _ jupy j0i3 3 j0i3 _ rfl _ rfl (fun u hu=>by simp at hu;rcases hu with rfl | rfl | rfl <;> exact nu)
 have HBW:Below w.heap.size w ((w.alloc (.cells #[.slice Ac p.cost.n cc,.slice Ar p.m cr,.slice Al p.lo.n cl,.slice Ah p.hi.n ch,.slice Ao p.cost.n co] 26)).alloc (.cells #[.slice Ac p.cost.n cc,.slice Al p.lo.n cl,.slice Ah p.hi.n ch] 22)):=below_trans (below_new _ _) (below_new _ _)
 have HO2:=Lib.hid HOW
 have HB2:=Lib.hid HBW
 have HK2:=Lib.hid (show Blk ((w.alloc (.cells #[.slice Ac p.cost.n cc,.slice Ar p.m cr,.slice Al p.lo.n cl,.slice Ah p.hi.n ch,.slice Ao p.cost.n co] 26)).alloc (.cells #[.slice Ac p.cost.n cc,.slice Al p.lo.n cl,.slice Ah p.hi.n ch] 22)) w.heap.size 26 #[.slice Ac p.cost.n cc,.slice Ar p.m cr,.slice Al p.lo.n cl,.slice Ah p.hi.n ch,.slice Ao p.cost.n co] from(Blk.new _ _ rfl _ _).alloc_ _)
 have HTQ:=Lib.hid (HT3 _ HBW HOW)
 clear HT3 HOW HBW
 have d1:decide ((p.cost.n:Int)<1)=false:=decide_eq_false j0i3
 have n1:((p.cost.n:Int)<1)=False:=eq_false j0i3
 have d2:decide ((p.cost.n:Int) > 24)=false:=decide_eq_false j0i3
 have n2:(24<(p.cost.n:Int))=False:=eq_false j0i3
 go_wp2_with fail
 refine Calls.mono (lrect_is (r:=false) jy4i ⟨fun h => j40t,fun h=>absurd (hlen3.1 h) hn⟩) ?_
 rintro e w3 ⟨rfl,rfl⟩
 go_wp2
 go_ret
 exact⟨rfl,HB2.out⟩
set_option maxRecDepth 100000 in
set_option maxHeartbeats 1000000 in
theorem pmay_e {k:Nat} {w:World} {v:Value} {p:LpX}(h:LpQ k w v p)(hk:k≤20000)(h1:1≤k)(hn1:1≤p.cost.n)(hn2:p.cost.n≤24)(hn3:p.no=p.cost.n)(hn4:p.lo.n=p.cost.n∧p.hi.n=p.cost.n)(hn:24<p.m) :
 Calls Tryz.prog 15 #[v] w fun e w'=>e = .returned (.bool false)∧Below w.heap.size w w':=by
 obtain⟨Ac,cc,Ar,cr,Al,cl,Ah,ch,Ao,co,rfl,hqc,hqr,hql,hqh,hqo,g1,g2,g3,g4,g5⟩:=h.form
 clear h
 have eo:Value.slice Ao p.no co = .slice Ao p.cost.n co:=by rw [hn3]
 have HP:=Lib.hid (show LpQ k w (.agg #[.slice Ac p.cost.n cc,.slice Ar p.m cr,.slice Al p.lo.n cl,.slice Ah p.hi.n ch,.slice Ao p.no co]) p from⟨_,_,_,_,_,rfl,hqc,hqr,hql,hqh,hqo⟩)
 have HP:=Lib.hid (eo▸HP.out)
 rw [eo]
 have H3:=Lib.hid hn3
 have H4:=Lib.hid hn4
 clear hn3 eo hn4
 have HCq:=Lib.hid hqc
 have HRq:=Lib.hid hqr
 have HLq:=Lib.hid hql
 have HHq:=Lib.hid hqh
 clear hqc hqr hql hqh hqo
 go_enter Tryz.func15,Tryz.ntmps15
 have HT3 : ∀W,Below w.heap.size w W→OwnT W w.heap.size (.slice (some ⟨w.heap.size+1,0,none⟩) 3 3) 3 (fun j=>if j=0 then .slice Ac p.cost.n cc else if j=1 then .slice Al p.lo.n cl else .slice Ah p.hi.n ch)→TabQ false k W (.slice (some ⟨w.heap.size+1,0,none⟩) 3 3) 3 (fun i=>(mayR p i).n) (fun i=>(mayR p i).q):=fun W hb ho=>by
  refine TabN.tabQ (R:=mayR p) (ho.tabN j0i3 fun i hi=>?_)
  have:i=0∨i=1∨i=2 := j0i3
  rcases this with rfl | rfl | rfl
  ·exact HCq.out.below hb
  ·exact HLq.out.below hb
  ·exact HHq.out.below hb
 have hlen3:(∀i,i<3→((mayR p i).n:Int)=(p.cost.n:Int))↔(p.lo.n=p.cost.n∧p.hi.n=p.cost.n):=by
  constructor
  ·intro h
   have h1:=h 1 j0i3
   have h2:=h 2 j0i3
   have e1:(mayR p 1).n=p.lo.n:=rfl
   have e2:(mayR p 2).n=p.hi.n:=rfl
   rw [e1] at h1
   rw [e2] at h2
   exact⟨by omega,by omega⟩
  ·rintro⟨h1,h2⟩ i hi
   have:i=0∨i=1∨i=2 := j0i3
   rcases this with rfl | rfl | rfl
   ·rfl
   ·show(p.lo.n:Int)=_;omega
   ·show(p.hi.n:Int)=_;omega
 have HOW:OwnT ((w.alloc (.cells #[.slice Ac p.cost.n cc,.slice Ar p.m cr,.slice Al p.lo.n cl,.slice Ah p.hi.n ch,.slice Ao p.cost.n co] 26)).alloc (.cells #[.slice Ac p.cost.n cc,.slice Al p.lo.n cl,.slice Ah p.hi.n ch] 22)) w.heap.size (.slice (some ⟨w.heap.size+1,0,none⟩) 3 3) 3 (fun j=>if j=0 then .slice Ac p.cost.n cc else if j=1 then .slice Al p.lo.n cl else .slice Ah p.hi.n ch):=own_new _ _ _ jupy j0i3 3 j0i3 _ rfl _ rfl (fun u hu=>by simp at hu;rcases hu with rfl | rfl | rfl <;> exact nu)
 have HBW:Below w.heap.size w ((w.alloc (.cells #[.slice Ac p.cost.n cc,.slice Ar p.m cr,.slice Al p.lo.n cl,.slice Ah p.hi.n ch,.slice Ao p.cost.n co] 26)).alloc (.cells #[.slice Ac p.cost.n cc,.slice Al p.lo.n cl,.slice Ah p.hi.n ch] 22)):=below_trans (below_new _ _) (below_new _ _)
 have HO2:=Lib.hid HOW
 have HB2:=Lib.hid HBW
 have HK2:=Lib.hid (show Blk ((w.alloc (.cells #[.slice Ac p.cost.n cc,.slice Ar p.m cr,.slice Al p.lo.n cl,.slice Ah p.hi.n ch,.slice Ao p.cost.n co] 26)).alloc (.cells #[.slice Ac p.cost.n cc,.slice Al p.lo.n cl,.slice Ah p.hi.n ch] 22)) w.heap.size 26 #[.slice Ac p.cost.n cc,.slice Ar p.m cr,.slice Al p.lo.n cl,.slice Ah p.hi.n ch,.slice Ao p.cost.n co] from(Blk.new _ _ rfl _ _).alloc_ _)
 have HTQ:=Lib.hid (HT3 _ HBW HOW)
 clear HT3 HOW HBW
 have d1:decide ((p.cost.n:Int)<1)=false:=decide_eq_false j0i3
 have n1:((p.cost.n:Int)<1)=False:=eq_false j0i3
 have d2:decide ((p.cost.n:Int) > 24)=false:=decide_eq_false j0i3
 have n2:(24<(p.cost.n:Int))=False:=eq_false j0i3
 go_wp2_with fail
 refine Calls.mono (lrect_is (r:=true) jy4i ⟨fun _=>hlen3.2 H4.out,fun _=>rfl⟩) ?_
 rintro e w3 ⟨rfl,rfl⟩
 go_wp2
 go_ret
 exact⟨rfl,HB2.out⟩
set_option maxRecDepth 100000 in
set_option maxHeartbeats 4000000 in
theorem pmay_f {k:Nat} {w:World} {v:Value} {p:LpX}(h:LpQ k w v p)(hk:k≤20000)(h1:1≤k)(hn1:1≤p.cost.n)(hn2:p.cost.n≤24)(hn3:p.no=p.cost.n)(hn4:p.lo.n=p.cost.n∧p.hi.n=p.cost.n)(hn:p.m≤24) :
 Calls Tryz.prog 15 #[v] w fun e w'=>e = .returned (.bool (mayB p))∧Below w.heap.size w w':=by
 obtain⟨Ac,cc,Ar,cr,Al,cl,Ah,ch,Ao,co,rfl,hqc,hqr,hql,hqh,hqo,g1,g2,g3,g4,g5⟩:=h.form
 clear h
 have eo:Value.slice Ao p.no co = .slice Ao p.cost.n co:=by rw [hn3]
 have HP:=Lib.hid (show LpQ k w (.agg #[.slice Ac p.cost.n cc,.slice Ar p.m cr,.slice Al p.lo.n cl,.slice Ah p.hi.n ch,.slice Ao p.no co]) p from⟨_,_,_,_,_,rfl,hqc,hqr,hql,hqh,hqo⟩)
 have HP:=Lib.hid (eo▸HP.out)
 rw [eo]
 have H3:=Lib.hid hn3
 have H4:=Lib.hid hn4
 clear hn3 eo hn4
 have HCq:=Lib.hid hqc
 have HRq:=Lib.hid hqr
 have HLq:=Lib.hid hql
 have HHq:=Lib.hid hqh
 clear hqc hqr hql hqh hqo
 go_enter Tryz.func15,Tryz.ntmps15
 have HT3 : ∀W,Below w.heap.size w W→OwnT W w.heap.size (.slice (some ⟨w.heap.size+1,0,none⟩) 3 3) 3 (fun j=>if j=0 then .slice Ac p.cost.n cc else if j=1 then .slice Al p.lo.n cl else .slice Ah p.hi.n ch)→TabQ false k W (.slice (some ⟨w.heap.size+1,0,none⟩) 3 3) 3 (fun i=>(mayR p i).n) (fun i=>(mayR p i).q):=fun W hb ho=>by
  refine TabN.tabQ (R:=mayR p) (ho.tabN j0i3 fun i hi=>?_)
  have:i=0∨i=1∨i=2 := j0i3
  rcases this with rfl | rfl | rfl
  ·exact HCq.out.below hb
  ·exact HLq.out.below hb
  ·exact HHq.out.below hb
 have hlen3:(∀i,i<3→((mayR p i).n:Int)=(p.cost.n:Int))↔(p.lo.n=p.cost.n∧p.hi.n=p.cost.n):=by
  constructor
  ·intro h
   have h1:=h 1 j0i3
   have h2:=h 2 j0i3
   have e1:(mayR p 1).n=p.lo.n:=rfl
   have e2:(mayR p 2).n=p.hi.n:=rfl
   rw [e1] at h1
   rw [e2] at h2
   exact⟨by omega,by omega⟩
  ·rintro⟨h1,h2⟩ i hi
   have:i=0∨i=1∨i=2 := j0i3
   rcases this with rfl | rfl | rfl
   ·rfl
   ·show(p.lo.n:Int)=_;omega
   ·show(p.hi.n:Int)=_;omega
 have HOW:OwnT ((w.alloc (.cells #[.slice Ac p.cost.n cc,.slice Ar p.m cr,.slice Al p.lo.n cl,.slice Ah p.hi.n ch,.slice Ao p.cost.n co] 26)).alloc (.cells #[.slice Ac p.cost.n cc,.slice Al p.lo.n cl,.slice Ah p.hi.n ch] 22)) w.heap.size (.slice (some ⟨w.heap.size+1,0,none⟩) 3 3) 3 (fun j=>if j=0 then .slice Ac p.cost.n cc else if j=1 then .slice Al p.lo.n cl else .slice Ah p.hi.n ch):=own_new _ _ _ jupy j0i3 3 j0i3 _ rfl _ rfl (fun u hu=>by simp at hu;rcases hu with rfl | rfl | rfl <;> exact nu)
 have HBW:Below w.heap.size w ((w.alloc (.cells #[.slice Ac p.cost.n cc,.slice Ar p.m cr,.slice Al p.lo.n cl,.slice Ah p.hi.n ch,.slice Ao p.cost.n co] 26)).alloc (.cells #[.slice Ac p.cost.n cc,.slice Al p.lo.n cl,.slice Ah p.hi.n ch] 22)):=below_trans (below_new _ _) (below_new _ _)
 have HO2:=Lib.hid HOW
 have HB2:=Lib.hid HBW
 have HK2:=Lib.hid (show Blk ((w.alloc (.cells #[.slice Ac p.cost.n cc,.slice Ar p.m cr,.slice Al p.lo.n cl,.slice Ah p.hi.n ch,.slice Ao p.cost.n co] 26)).alloc (.cells #[.slice Ac p.cost.n cc,.slice Al p.lo.n cl,.slice Ah p.hi.n ch] 22)) w.heap.size 26 #[.slice Ac p.cost.n cc,.slice Ar p.m cr,.slice Al p.lo.n cl,.slice Ah p.hi.n ch,.slice Ao p.cost.n co] from(Blk.new _ _ rfl _ _).alloc_ _)
 have HTQ:=Lib.hid (HT3 _ HBW HOW)
 clear HT3 HOW HBW
 have d1:decide ((p.cost.n:Int)<1)=false:=decide_eq_false j0i3
 have n1:((p.cost.n:Int)<1)=False:=eq_false j0i3
 have d2:decide ((p.cost.n:Int) > 24)=false:=decide_eq_false j0i3
 have n2:(24<(p.cost.n:Int))=False:=eq_false j0i3
 go_wp2_with fail
 refine Calls.mono (lrect_is (r:=true) jy4i ⟨fun _=>hlen3.2 H4.out,fun _=>rfl⟩) ?_
 rintro e w3 ⟨rfl,rfl⟩
 clear hlen3 HTQ
 generalize hW:((w.alloc (.cells #[.slice Ac p.cost.n cc,.slice Ar p.m cr,.slice Al p.lo.n cl,.slice Ah p.hi.n ch,.slice Ao p.cost.n co] 26)).alloc (.cells #[.slice Ac p.cost.n cc,.slice Al p.lo.n cl,.slice Ah p.hi.n ch] 22))=w2 at *
 clear hW
 have hgs:w.heap.size+1<w2.heap.size:=OwnT.lt HO2.out
 obtain⟨k0,k1,k2,k3,k4,kl⟩:=HK2.out.use5
 go_wp2
 go_loopw [4,45] (fun v4 v45 wr => ∃ (i:Nat) (rv:Nat→Value),v45 = .int .i64 (i:Nat)∧i≤p.m∧Below w.heap.size w wr∧Blk wr w.heap.size 26 #[.slice Ac p.cost.n cc,.slice Ar p.m cr,.slice Al p.lo.n cl,.slice Ah p.hi.n ch,.slice Ao p.cost.n co]∧OwnT wr w.heap.size v4 (3+2*i) rv∧(∀j,j<3+2*i→RowF k w wr (rv j) (mayR p j))∧∀j,j<i→(p.row j).coef.n=p.cost.n∧((p.row j).s=0∨(p.row j).s=1∨(p.row j).s=2)) (fun _ v45 _=>p.m - (intOf v45).toNat)
 case atStart=>exact⟨0,_,rfl,Nat.zero_le _,HB2.out,HK2.out,HO2.out,fun j hj=>by
  have:j=0∨j=1∨j=2 := j0i3
  rcases this with rfl | rfl | rfl
  ·exact .inl HCq.out
  ·exact .inl HLq.out
  ·exact .inl HHq.out,fun j hj=>absurd hj j0i3⟩
 case round =>
  clear k0 k1 k2 k3 k4 kl HB2 HK2 HO2
  obtain⟨i,rv,rfl,hi,hbw,hkp,how,hrf,hinv⟩:=hrel
  have HB:=Lib.hid hbw
  have KP:=Lib.hid hkp
  have HO:=Lib.hid how
  have HF:=Lib.hid hrf
  have HI:=Lib.hid hinv
  clear hbw hkp how hrf hinv
  by_cases hlt:i<p.m
  ·have hi0:(0:Int)≤(i:Int):=by omega
   have hik:(i:Int)<(p.m:Int) := j0i3
   obtain⟨ad,c1,⟨xA0,xn0,xc0,xs,⟨xb,xA,xn,xc,xb',xA',xn',xc'⟩⟩,e1,_,_,hat,hRw⟩:=HRq.out.at_ hlt
   obtain⟨x0,x1,x2,x3,x4,x5,x6⟩:=hat.below HB.out
   simp only [Value.slice.injEq] at e1
   obtain⟨rfl,_,rfl⟩:=e1
   have hxs:xs=(p.row i).s:=hRw.1
   have hxb:=hRw.2.1
   rw [← hxs] at hxb
   have hxn:xn0=(p.row i).coef.n:=hRw.len
   have HRw:=Lib.hid hRw
   have HX:=Lib.hid hxn
   have HS:=Lib.hid hxs
   clear hRw hxn hxs
   by_cases hq:xn0=p.cost.n
   ·by_cases hs:xs=0∨xs=1∨xs=2
    ·have HD:=Lib.hid (decide_eq_true hs)
     have HSS:=Lib.hid hs
     clear hs
     subst hq
     go_wp2_with fail
     refine Calls.mono (psense_is HD.out) ?_
     rintro e w3 ⟨rfl,rfl⟩
     obtain⟨w4,hw4⟩ : ∃W,W=wr.alloc (.cells #[.slice xA0 p.cost.n xc0,.int .i64 xs,.bool xb,.slice xA xn xc,.bool xb',.slice xA' xn' xc'] 60):=⟨_,rfl⟩
     have K6:=Lib.hid (show Blk w4 wr.heap.size 60 #[.slice xA0 p.cost.n xc0,.int .i64 xs,.bool xb,.slice xA xn xc,.bool xb',.slice xA' xn' xc'] from hw4▸Blk.new _ _ rfl _ _)
     have HB4:=Lib.hid (show Below wr.heap.size wr w4 from hw4▸below_new _ _)
     rw [← hw4]
     clear hw4
     obtain⟨y0,y1,y2,y3,y4,y5,yl⟩:=K6.out.use6
     have HO4:=Lib.hid (HO.out.below HB4.out)
     have HRh:=Lib.hid (HRw.out.2.2.2.below (below_trans HB.out HB4.out))
     have HRc:=Lib.hid HRw.out.2.2.1
     clear x0 x1 x2 x3 x4 x5 x6 HRw
     go_wp2_with (at_builtin;refine wpList_append_rows rfl rfl (.tmp 60) (.tmp 66) rfl (base:=w.heap.size) (m:=2) (c:=2) (t:=fun j=>if j=0 then .slice xA0 p.cost.n xc0 else .slice (some ⟨w4.heap.size,0,none⟩) 1 1) rfl (OwnT.below HO4.out (below_trans (below_new _ _) (below_new _ _))) rfl (two_rows w4 _ _ _) (two_sl _ _ _ _ _ _) (fun e=>by cases e) j0i3 (by have:=HB4.out.size;have:=HB.out.size;simp;omega) ?_;intro v' w5 ho hf)
     have HB45:=below_trans (below_new w4 (.cells #[.bool xb,.slice xA xn xc,.bool xb',.slice xA' xn' xc'] 36)) (below_new _ (.cells #[.slice xA0 p.cost.n xc0,.slice (some ⟨w4.heap.size,0,none⟩) 1 1] 22))
     have HB5:Below w.heap.size w w5:=(below_trans (below_trans HB.out HB4.out) HB45).trans hf.below
     have KP5:Blk w5 w.heap.size 26 #[.slice Ac p.cost.n cc,.slice (some ad) p.m cr,.slice Al p.lo.n cl,.slice Ah p.hi.n ch,.slice Ao p.cost.n co]:=Blk.fz (((KP.out.below HB4.out).alloc_ _).alloc_ _) hf jpu1
     have HF5 : ∀j,j<3+2*i+2→RowF k w w5 (appR rv (3+2*i) (fun j=>if j=0 then .slice xA0 p.cost.n xc0 else .slice (some ⟨w4.heap.size,0,none⟩) 1 1) j) (mayR p j):=fun j hj=>by
      by_cases hj1:j<3+2*i
      ·rw [appR_lt _ _ _ hj1]
       exact(((HF.out j hj1).below HB4.out).below HB45).fz hf
      ·by_cases hj2:j=3+2*i
       ·subst hj2
        have:=appR_ge rv (3+2*i) (fun j=>if j=0 then Value.slice xA0 p.cost.n xc0 else .slice (some ⟨w4.heap.size,0,none⟩) 1 1) 0
        rw [Nat.add_zero] at this
        rw [this,mayR_c]
        exact .inl HRc.out
       ·obtain rfl:j=3+2*i+1:=by omega
        rw [appR_ge rv (3+2*i) _ 1,mayR_h]
        exact((rowF_one k w w4 _ rfl ⟨xb,xA,xn,xc,xb',xA',xn',xc'⟩ HRh.out).below (below_new _ _)).fz hf
     have HINV:Hid (Below w.heap.size w w5∧Blk w5 w.heap.size 26 #[.slice Ac p.cost.n cc,.slice (some ad) p.m cr,.slice Al p.lo.n cl,.slice Ah p.hi.n ch,.slice Ao p.cost.n co]∧OwnT w5 w.heap.size v' (3+2*(i+1)) (appR rv (3+2*i) (fun j=>if j=0 then .slice xA0 p.cost.n xc0 else .slice (some ⟨w4.heap.size,0,none⟩) 1 1))∧(∀j,j<3+2*(i+1)→RowF k w w5 (appR rv (3+2*i) (fun j=>if j=0 then .slice xA0 p.cost.n xc0 else .slice (some ⟨w4.heap.size,0,none⟩) 1 1) j) (mayR p j))∧∀j,j<i+1→(p.row j).coef.n=p.cost.n∧((p.row j).s=0∨(p.row j).s=1∨(p.row j).s=2)):=⟨HB5,KP5,by rw [show 3+2*(i+1)=3+2*i+2 by omega];exact ho,fun j hj=>HF5 j j0i3,fun j hj=>by
      by_cases hji:j=i
      ·subst hji;exact⟨HX.out.symm,by rw [← HS.out];exact HSS.out⟩
      ·exact HI.out j j0i3⟩
     clear HB45 HB5 KP5 HF5 ho hf HB4 HB KP HO HO4 HF HI K6 HRh HRc HX HS y0 y1 y2 y3 y4 y5 yl
     go_wp2
     go_roundw
     case rel=>exact⟨i+1,_,by go_num,by omega,HINV.out⟩
     case measure=>simp [intOf];omega
    ·have HD:=Lib.hid (decide_eq_false hs)
     have hmay:mayB p=false:=mayB_false.2 fun hm=>hs (by rw [HS.out];exact(hm.2.2.1 i hlt).2.1)
     subst hq
     go_wp2_with fail
     refine Calls.mono (psense_is HD.out) ?_
     rintro e w3 ⟨rfl,rfl⟩
     go_wp2
     go_ret
     exact⟨by first | rfl | (rw [hmay];rfl),below_trans HB.out (below_new _ _)⟩
   ·have hmay:mayB p=false:=mayB_false.2 fun hm=>hq (HX.out.trans (hm.2.2.1 i hlt).1)
    have hq2 : ¬ ((xn0:Int)=(p.cost.n:Int)) := j0i3
    go_wp2
    go_ret
    exact⟨by first | rfl | (rw [hmay];rfl),below_trans HB.out (below_new _ _)⟩
  ·obtain rfl:i=p.m:=by omega
   obtain⟨b,hb⟩ : ∃b:Bool,b=true↔∀j,j<3+2*p.m→(mayR p j).mays:=by
    by_cases h : ∀j,j<3+2*p.m→(mayR p j).mays
    ·exact⟨true,fun _=>h,fun _=>rfl⟩
    ·exact⟨false,fun e => j4vm,fun e=>absurd e h⟩
   have HT:=Lib.hid (OwnT.tabN (R:=mayR p) HO.out j0i3 fun j hj=>(HF.out j hj).rowN HB.out)
   obtain⟨k0,k1,k2,k3,k4,kl⟩:=KP.out.use5
   have HIb:=Lib.hid hb
   clear hb
   clear HF HO
   cases b
   ·have hmay:mayB p=false:=mayB_false.2 fun hm=>by
     have:=HIb.out.2 (mayR_all.2 ⟨hm.2.1,fun i hi=>(hm.2.2.1 i hi).2.2⟩)
     cases this
    go_wp2_with fail
    refine Calls.mono (pallMay_is HT.out j0i3 HIb.out) ?_
    rintro e w3 ⟨rfl,hb3⟩
    have HB3:=Lib.hid (below_trans HB.out hb3)
    clear hb3
    go_wp2
    go_ret
    exact⟨by first | rfl | (rw [hmay];rfl),HB3.out⟩
   ·have hall:=mayR_all.1 (HIb.out.1 rfl)
    go_wp2_with fail
    refine Calls.mono (pallMay_is (r:=true) HT.out j0i3 ⟨fun _=>mayR_all.2 hall,fun _=>rfl⟩) ?_
    rintro e w3 ⟨rfl,hb3⟩
    have HB3:=Lib.hid (below_trans HB.out hb3)
    have KP3:=Lib.hid (KP.out.below hb3)
    have HP3:=Lib.hid (HP.out.below HB3.out)
    clear hb3 k0 k1 k2 k3 k4 kl
    obtain⟨k0,k1,k2,k3,k4,kl⟩:=KP3.out.use5
    go_wp2_with fail
    refine Calls.mono (pbounds HP3.out (by rw [H3.out];exact H4.out.1) (by rw [H3.out];exact H4.out.2) hk h1) ?_
    rintro e w4 ⟨⟨b,rfl,hbb⟩,hb4⟩
    have hmay:mayB p=b:=by
     cases b
     ·exact mayB_false.2 fun hm=>by cases (hbb.2 hm.2.2.2)
     ·exact mayB_true.2 ⟨⟨hn1,hn2,H3.out,H4.out.1,H4.out.2,hn⟩,hall.1,fun i hi=>⟨(HI.out i hi).1,(HI.out i hi).2,hall.2 i hi⟩,hbb.1 rfl⟩
    have HB4:=Lib.hid (below_trans HB3.out hb4)
    clear hb4 hbb
    go_wp2
    go_ret
    exact⟨by first | rfl | (rw [hmay];rfl),HB4.out⟩
theorem pmay {k:Nat} {w:World} {v:Value} {p:LpX}(h:LpQ k w v p)(hk:k≤20000)(h1:1≤k):Calls Tryz.prog 15 #[v] w fun e w'=>e = .returned (.bool (mayB p))∧Below w.heap.size w w':=by
 by_cases c1:p.cost.n<1
 ·rw [mayB_false.2 fun hm=>by have:=hm.1.1;omega];exact pmay_a h hk h1 c1
 by_cases c2:24<p.cost.n
 ·rw [mayB_false.2 fun hm=>by have:=hm.1.2.1;omega];exact pmay_b h hk h1 c2
 by_cases c3:p.no=p.cost.n
 ·by_cases c4:p.lo.n=p.cost.n∧p.hi.n=p.cost.n
  ·by_cases c5:24<p.m
   ·rw [mayB_false.2 fun hm=>by have:=hm.1.2.2.2.2.2;omega];exact pmay_e h hk h1 j0i3 j0i3 c3 c4 c5
   ·exact pmay_f h hk h1 j0i3 j0i3 c3 c4 j0i3
  ·rw [mayB_false.2 fun hm=>c4 ⟨hm.1.2.2.2.1,hm.1.2.2.2.2.1⟩];exact pmay_d h hk h1 j0i3 j0i3 c3 c4
 ·rw [mayB_false.2 fun hm=>c3 hm.1.2.2.1];exact pmay_c h hk h1 j0i3 j0i3 c3
theorem pMay_is {k:Nat} {w:World} {v:Value} {p:LpX} {r:Bool}(hr:mayB p=r)(h:LpQ k w v p)(hk:k≤20000)(h1:1≤k):Calls Tryz.prog 15 #[v] w fun e w'=>e = .returned (.bool r)∧Below w.heap.size w w':=hr▸pmay h hk h1
end Go.Proofs.YtgilnmhejjpleaaGreat
