/- Contract of prob: Back. -/
import Derived.Test.YtgilnmhejjpleaaGreatPMin
import Derived.Test.YtgilnmhejjpleaaGreatPFt
namespace Go.Proofs.YtgilnmhejjpleaaGreat
open Go.RowKit Go.Shelf
set_option linter.unusedSimpArgs false
set_option linter.unusedVariables false
attribute [local go_sem] Oper.semAt_some
theorem js0a {P:Prop}(h:P:=by first | omega | (simp; done) | (simp; omega)):P:=h
theorem jt4q {P:Prop}(h:P:=by first | exact hgg1 | exact hgg2 | exact hgg3 | exact hgg4 | exact hgg5):P:=h
theorem jcsn {P:Prop}(h:P:=by (try dsimp only); (first | (and_intros <;> (first | with_reducible assumption | ((with_reducible refine Eq.trans (cell_drew _ _) ?_); with_reducible assumption) | ((repeat rw [World.cell?_setCell_far _ _ _ _ jt4q]); with_reducible assumption) | go_keep)) | go_keep)):P:=h
theorem jhhx {P:Prop}(h:P:=by rw [hW]; exact Below.setCell (Below.setCell g11' js0a _) js0a _):P:=h
theorem RowQ.tail {p:Bool} {k n c:Nat} {w:World} {ad:Addr} {f:Nat→Rat}(h:RowQ p k w (.slice (some ad) (n+1) c) (n+1) f):RowQ p k w (.slice (if c=1 then some ad else some ⟨ad.block,ad.off+4,none⟩) n (c - 1)) n (fun j=>f (j+1)):=by
 obtain⟨A,c',X,e,h1,h2,h3,h4⟩:=h
 simp only [Value.slice.injEq,true_and] at e
 obtain⟨rfl,rfl⟩:=e
 have hc:=h1.1
 by_cases hc1:c=1
 ·subst hc1
  obtain rfl:n=0 := j0i3
  exact⟨some ad,0,fun _=>ratZ,by simp,⟨by omega,fun e=>by cases e⟩,by omega,fun i hi=>absurd hi j0i3,fun i hi=>absurd hi j0i3⟩
 ·refine⟨some ⟨ad.block,ad.off+4,none⟩,c - 1,fun i=>X (i+1),by rw [if_neg hc1],⟨by omega,fun e=>by cases e⟩,by omega,fun i hi=>?_,fun i hi=>h4 (i+1) j0i3⟩
  obtain⟨ad',e',hx⟩:=h3 (i+1) j0i3
  injection e' with e'
  subst e'
  refine⟨_,rfl,?_⟩
  have e:(⟨ad.block,ad.off+4,none⟩:Addr).add (i*4)=ad.add ((i+1)*4):=by
   unfold Addr.add
   by_cases hi0:i=0
   ·subst hi0;rfl
   ·rw [if_neg j0i3,if_neg j0i3]
    simp
    omega
  rw [e]
  exact hx
theorem col_v {p:LpX} {pre:List ColX} {x:ColX}(h:pre ++ [x] <+: colL p):(pre.length<p.no∧x.v=(pre.length:Nat))∨(p.no≤pre.length∧x.v = -1):=by
 have hx:(colL p)[pre.length]? = some x:=by
  obtain⟨t,ht⟩:=h
  rw [← ht]
  simp
 have hv : ∀n i,i<n→(varL p n)[i]? = some ⟨(i:Nat),endR p i,1⟩:=fun n=>by
  induction n with
  |zero=>intro i hi;omega
  |succ n ih =>
   intro i hi
   rw [varL]
   by_cases e:i<n
   ·rw [List.getElem?_append_left (by rw [varL_len];exact e)];exact ih i e
   ·obtain rfl:i=n:=by omega
    rw [List.getElem?_append_right (by rw [varL_len];omega),varL_len,Nat.sub_self];rfl
 by_cases hq:pre.length<p.no
 ·left
  refine⟨hq,?_⟩
  unfold colL at hx
  rw [List.append_assoc,List.getElem?_append_left (by rw [varL_len];exact hq),hv _ _ hq] at hx
  injection hx with hx
  rw [← hx]
 ·right
  refine⟨by omega,?_⟩
  unfold colL at hx
  rw [List.append_assoc,List.getElem?_append_right (by rw [varL_len];omega)] at hx
  have hm:=List.mem_of_getElem? hx
  have hs : ∀n,∀x∈slkL p n,x.v = -1:=fun n=>by
   induction n with
   |zero=>intro x hx;cases hx
   |succ n ih =>
    intro x hx
    rcases List.mem_append.1 hx with hx | hx
    ·exact ih x hx
    ·split at hx
     ·cases hx
     ·obtain rfl:=List.mem_singleton.1 hx;rfl
  have he : ∀n,∀x∈endL p n,x.v = -1:=fun n=>by
   induction n with
   |zero=>intro x hx;cases hx
   |succ n ih =>
    intro x hx
    rcases List.mem_append.1 hx with hx | hx
    ·exact ih x hx
    ·split at hx
     ·cases hx
     ·obtain rfl:=List.mem_singleton.1 hx;rfl
  rcases List.mem_append.1 hm with h | h
  ·exact hs _ _ h
  ·exact he _ _ h
def BackP(K l:Nat)(p:LpX)(w:World)(pl:Bool)(ny:Nat)(y:Nat→Rat)(gx Bs:Nat)(vp:Array Value)(q nv m:Nat)(X:Nat→RatD)(Ax:Option Addr)(cx:Nat)(Ay:Option Addr)(cy:Nat)(V:World):Prop :=
 OwnR V (gx+2) (.slice Ax nv cx) nv X∧(∀j,j<nv→EQ true K V (X j).val (p.lo.q j+y j))∧q+m=ny∧RowQ pl l w (.slice Ay m cy) m (fun i=>y (q+i))∧
  Blk V gx 22 #[.slice Ax nv cx]∧Blk V (w.heap.size+1) 22 #[.slice Ay m cy]∧Blk V (w.heap.size+1+1) 22 #[.slice none 0 0]∧Blk V (w.heap.size+1+1+1) 37 #[.int .i64 0]∧
  Blk V w.heap.size 26 vp∧Blk V Bs 26 vp∧Below w.heap.size w V∧gx+2≤V.heap.size
def BackI(K l:Nat)(p:LpX)(w:World)(pl:Bool)(ny:Nat)(y:Nat→Rat)(gx Bs:Nat)(vp:Array Value)(pre:List ColX)(V:World):Prop :=
 ∃m X Ax cx Ay cy,BackP K l p w pl ny y gx Bs vp pre.length (min pre.length p.no) m X Ax cx Ay cy V
def BackX(p:LpX)(w:World)(ny:Nat)(c:Code)(V:World):Prop :=
 c = .ret∧ny<(colL p).length∧Blk V (w.heap.size+1+1) 22 #[.slice none 0 0]∧Blk V (w.heap.size+1+1+1) 37 #[.int .i64 1]∧Below w.heap.size w V
section
variable {K l ny gx Bs q nv m cx cy:Nat} {p:LpX} {w V V':World} {pl:Bool} {y:Nat→Rat} {vp:Array Value} {pre:List ColX} {X:Nat→RatD} {Ax Ay:Option Addr} {g:Nat} {rl:Loop}
theorem BackP.below(h:BackP K l p w pl ny y gx Bs vp q nv m X Ax cx Ay cy V)(hb:Below V.heap.size V V'):BackP K l p w pl ny y gx Bs vp q nv m X Ax cx Ay cy V':=by
 obtain⟨h1,h2,h3,h4,h5,h6,h7,h8,h9,h10,h11,h12⟩:=h
 exact⟨h1.below hb,fun j hj=>(h2 j hj).below hb,h3,h4,h5.below hb,h6.below hb,h7.below hb,h8.below hb,h9.below hb,h10.below hb,h11.trans (hb.mono h11.size),Nat.le_trans h12 hb.size⟩
theorem BackI.below(h:BackI K l p w pl ny y gx Bs vp pre V)(hb:Below V.heap.size V V'):BackI K l p w pl ny y gx Bs vp pre V':=by
 obtain⟨m,X,Ax,cx,Ay,cy,h⟩:=h
 exact⟨m,X,Ax,cx,Ay,cy,h.below hb⟩
theorem BackI.put(hl:V.heap[g]? = some (.loop rl))(o:Obj)(hw:w.heap.size≤g)(h:BackI K l p w pl ny y gx Bs vp pre V):BackI K l p w pl ny y gx Bs vp pre (V.putObj g o):=by
 obtain⟨m,X,Ax,cx,Ay,cy,h1,h2,h3,h4,h5,h6,h7,h8,h9,h10,h11,h12⟩:=h
 have hk:=kp_put hl o
 exact⟨m,X,Ax,cx,Ay,cy,OwnN.put hl o h1,fun j hj=>(h2 j hj).kp hk,h3,h4,put_other hl o h5,put_other hl o h6,put_other hl o h7,put_other hl o h8,put_other hl o h9,put_other hl o h10,put_belowW o hw h11,by simpa using h12⟩
theorem BackX.below {c:Code}(h:BackX p w ny c V)(hb:Below V.heap.size V V'):BackX p w ny c V':=⟨h.1,h.2.1,h.2.2.1.below hb,h.2.2.2.1.below hb,h.2.2.2.2.trans (hb.mono h.2.2.2.2.size)⟩
theorem BackX.put {c:Code}(hl:V.heap[g]? = some (.loop rl))(o:Obj)(hw:w.heap.size≤g)(h:BackX p w ny c V):BackX p w ny c (V.putObj g o):=⟨h.1,h.2.1,put_other hl o h.2.2.1,put_other hl o h.2.2.2.1,put_belowW o hw h.2.2.2.2⟩
theorem nu1 {a:Value}(ha:Nu a) : ∀u∈(#[a]:Array Value).toList,Nu u:=fun u hu=>by
 simp at hu;rw [hu];exact ha
theorem BackP.next {ad:Addr}(h:BackP K l p w pl ny y gx Bs vp q nv (m+1) X Ax cx (some ad) cy V)(hgx:w.heap.size+1+1+1<gx)(hBs:Bs=gx+1)(hW:V'=V.setCell ⟨w.heap.size+1,0,none⟩ (.slice (if cy=1 then some ad else some ⟨ad.block,ad.off+4,none⟩) m (cy - 1))) :
 BackP K l p w pl ny y gx Bs vp (q+1) nv m X Ax cx (if cy=1 then some ad else some ⟨ad.block,ad.off+4,none⟩) (cy - 1) V':=by
 obtain⟨h1,h2,h3,h4,h5,h6,h7,h8,h9,h10,h11,h12⟩:=h
 have hl:=lo_cell (base:=gx+2) (i:=0) (v := .slice (if cy=1 then some ad else some ⟨ad.block,ad.off+4,none⟩) m (cy - 1)) h6 (nu1 nu) j0i3
 subst hW
 have h4':=h4.tail
 exact⟨hl.own h1,fun j hj=>(h2 j hj).kp hl.1,by omega,h4'.congr fun i _=>by show y (q+(i+1))=y (q+1+i);congr 1;omega,h5.other j0i3 _ _,h6.set_ 0 _,h7.other j0i3 _ _,h8.other j0i3 _ _,h9.other j0i3 _ _,h10.other j0i3 _ _,Below.setCell h11 jupy _,by simpa [World.setCell] using h12⟩
theorem BackI.next {ad:Addr} {nv':Nat} {x:ColX}(h:BackP K l p w pl ny y gx Bs vp pre.length nv' (m+1) X Ax cx (some ad) cy V)(hn:min (pre.length+1) p.no=nv')(hgx:w.heap.size+1+1+1<gx)(hBs:Bs=gx+1)(hW:V'=V.setCell ⟨w.heap.size+1,0,none⟩ (.slice (if cy=1 then some ad else some ⟨ad.block,ad.off+4,none⟩) m (cy - 1))):BackI K l p w pl ny y gx Bs vp (pre ++ [x]) V':=by
 have e:(pre ++ [x]).length=pre.length+1 := jupy
 unfold BackI
 rw [e,hn]
 exact⟨m,X,Ax,cx,_,_,h.next hgx hBs hW⟩
theorem Blk.low {w w':World} {base g:Nat} {t:TypeId} {cs:Array Value}(h:Blk w g t cs)(hb:Below base w w')(hg:g<base):Blk w' g t cs:=(hb.block g hg).trans h
def NC(V W:World):Prop := ∀ (k:Nat) (o:Obj),V.heap[k]? = some o→(∀cs t m,o≠ .cells cs t m)→W.heap[k]? = some o
theorem nc_below {V W:World}(h:Below V.heap.size V W):NC V W:=fun k o e _=>(h.block k (Array.getElem?_eq_some_iff.1 e).1).trans e
theorem nc_fz {V W:World} {base:Nat} {t:TypeId}(h:Fz base t V W):NC V W:=fun k o e ho=>h.other k o e fun cs m=>ho cs t m
theorem nc_cell {V:World} {g i:Nat} {t:TypeId} {cs:Array Value} {v:Value}(h:Blk V g t cs):NC V (V.setCell ⟨g,i,none⟩ v):=fun k o e ho=>by
 have hk:k≠g:=fun e2=>by
  subst e2
  rw [show V.heap[k]? = _ from h] at e
  injection e with e
  exact ho cs t (0,0) e.symm
 exact(heap_setCell_other V ⟨g,i,none⟩ k v hk).trans e
theorem NC.trans {X Y Z:World}(h:NC X Y)(h':NC Y Z):NC X Z:=fun k o e ho=>h' k o (h k o e ho) ho
theorem kpI_fz {V W:World} {base:Nat} {t:TypeId}(h:Fz base t V W)(ht:3≠t):KpI V W:=fun g cs m e=>h.other _ _ e fun cs' m' e=>by injection e with _ e _;exact ht e
theorem BackP.grown {n:Nat} {A8:Option Addr} {c8:Nat} {x:RatD} {w8:World}(h:BackP K l p w pl ny y gx Bs vp q n m X Ax cx Ay cy V)(hgx:w.heap.size+1+1+1<gx)(hBs:Bs=gx+1)(hx:EQ true K V x.val (p.lo.q n+y n))(ho:OwnR w8 (gx+2) (.slice A8 (n+1) c8) (n+1) (appR X n (fun _=>x)))(hf:Fz (gx+2) 36 V w8) :
 BackP K l p w pl ny y gx Bs vp q (n+1) m (appR X n (fun _=>x)) A8 c8 Ay cy (w8.setCell ⟨gx,0,none⟩ (.slice A8 (n+1) c8)):=by
 obtain⟨h1,h2,h3,h4,h5,h6,h7,h8,h9,h10,h11,h12⟩:=h
 have hs:=hf.below.size
 have g5:Blk w8 gx 22 #[.slice Ax n cx]:=h5.low hf.below j0i3
 have hl:=lo_cell (base:=gx+2) (i:=0) (v := .slice A8 (n+1) c8) g5 (nu1 nu) j0i3
 refine⟨hl.own ho,fun j hj=>?_,h3,h4,g5.set_ 0 _,(h6.low hf.below j0i3).other j0i3 _ _,(h7.low hf.below j0i3).other j0i3 _ _,(h8.low hf.below j0i3).other j0i3 _ _,(h9.low hf.below j0i3).other j0i3 _ _,(h10.low hf.below j0i3).other j0i3 _ _,Below.setCell (h11.trans (hf.below.mono j0i3)) (by show w.heap.size≤gx;omega) _,by simp [World.setCell];omega⟩
 by_cases e:j<n
 ·rw [appR_lt _ _ _ e];exact((h2 j e).kp hf.keep).kp hl.1
 ·obtain rfl:j=n:=by omega
  rw [appR_at];exact(hx.kp hf.keep).kp hl.1
theorem kpI_cell {g i:Nat} {t:TypeId} {cs:Array Value} {v:Value}(h:Blk V g t cs)(ht:t≠3):KpI V (V.setCell ⟨g,i,none⟩ v):=fun k cs' m e=>by
 have hk:k≠g:=fun e2=>by
  subst e2
  rw [show V.heap[k]? = _ from h] at e
  injection e with e
  injection e with _ e _
  exact ht e
 exact(heap_setCell_other V ⟨g,i,none⟩ k v hk).trans e
end
set_option maxRecDepth 100000 in
set_option maxHeartbeats 8000000 in
theorem pback {pl:Bool} {k l ny:Nat} {w:World} {v vy:Value} {p:LpX} {y:Nat→Rat}(h:LpQ k w v p)(hy:RowQ pl l w vy ny y)(hm:MayX p)(hk:k≤300)(h1:1≤k)(hl:l≤300)(h2:1≤l) :
 Calls Tryz.prog 20 #[v,vy] w fun e w' => ∃vx,(ny=(colL p).length∧e = .returned (.tuple #[vx,.int .i64 0])∧RowT true (k+l+1) w' vx p.cost.n (fun j=>p.lo.q j+y j)∨ny≠(colL p).length∧e = .returned (.tuple #[.slice none 0 0,.int .i64 1]))∧Below w.heap.size w w':=by
 obtain⟨Ac,cc,Ar,cr,Al,cl,Ah,ch,Ao,co,rfl,hqc,hqr,hql,hqh,hqo,g1,g2,g3,g4,g5⟩:=h.form
 obtain⟨Ay,cy,rfl,hcy,gy⟩:=hy.len
 have p_0:=Lib.hid (show LpQ k w (.agg #[.slice Ac p.cost.n cc,.slice Ar p.m cr,.slice Al p.lo.n cl,.slice Ah p.hi.n ch,.slice Ao p.no co]) p from⟨_,_,_,_,_,rfl,hqc,hqr,hql,hqh,hqo⟩)
 have y_0:=Lib.hid hy
 have HM:=Lib.hid (mayB_true.2 hm)
 have HMX:=Lib.hid hm
 clear h hm hqr hqh hqo hqc hql hy
 refine(callsIn_wide (n:=5)).1 ?_
 refine callsIn_of_wp_marks Tryz.func20 rfl trivial ?_ rfl
 simp only [Tryz.ntmps20,List.size_toArray,List.length_cons,List.length_nil,Nat.reduceAdd,Nat.reduceSub,Array.replicate_succ,Array.replicate_zero,List.push_toArray,List.append_toArray,List.nil_append,List.cons_append]
 have Z_0:Hid (Blk ((((w.alloc (.cells #[.slice Ac p.cost.n cc,.slice Ar p.m cr,.slice Al p.lo.n cl,.slice Ah p.hi.n ch,.slice Ao p.no co] 26)).alloc (.cells #[.slice Ay ny cy] 22)).alloc (.cells #[.slice none 0 0] 22)).alloc (.cells #[.int .i64 0] 37)) w.heap.size 26 #[.slice Ac p.cost.n cc,.slice Ar p.m cr,.slice Al p.lo.n cl,.slice Ah p.hi.n ch,.slice Ao p.no co]):=(((Blk.new _ _ rfl _ _).alloc_ _).alloc_ _).alloc_ _
 gi_wp2
 refine⟨trivial,?_⟩
 refine(callsIn_wide.2 (pMay_is HM.out ((((p_0.out.alloc_ _).alloc_ _).alloc_ _).alloc_ _) j0i3 h1)).mono ?_
 rintro e w1 ⟨rfl,hb⟩
 have K1:=Lib.hid (Blk.below Z_0.out hb)
 have HB1:=Lib.hid (bun (bun (bun (bun hb))))
 have KY1:=Lib.hid (show Blk w1 (w.heap.size+1) 22 #[.slice Ay ny cy] from(((Blk.new _ _ jupy _ _).alloc_ _).alloc_ _).below hb)
 have KR1:=Lib.hid (show Blk w1 (w.heap.size+1+1) 22 #[.slice none 0 0] from((Blk.new _ _ jupy _ _).alloc_ _).below hb)
 have KC1:=Lib.hid (show Blk w1 (w.heap.size+1+1+1) 37 #[.int .i64 0] from(Blk.new _ _ jupy _ _).below hb)
 clear hb Z_0
 obtain⟨k0,k1,k2,k3,k4,kl⟩:=K1.out.use5
 gi_wp2
 refine⟨trivial,?_⟩
 refine(callsIn_wide.2 (pcolumns _ _ _ _ _ _)).mono ?_
 rintro e w5 ⟨rfl,rfl⟩
 have HI0:Hid (BackI (k+l+1) l p w pl ny y w1.heap.size (w1.heap.size+1) #[.slice Ac p.cost.n cc,.slice Ar p.m cr,.slice Al p.lo.n cl,.slice Ah p.hi.n ch,.slice Ao p.no co] [] ((w1.alloc (.cells #[.slice none 0 0] 22)).alloc (.cells #[.slice Ac p.cost.n cc,.slice Ar p.m cr,.slice Al p.lo.n cl,.slice Ah p.hi.n ch,.slice Ao p.no co] 26))):=by
  have hbb:=below_trans (below_new w1 (.cells #[.slice none 0 0] 22)) (below_new _ (.cells #[.slice Ac p.cost.n cc,.slice Ar p.m cr,.slice Al p.lo.n cl,.slice Ah p.hi.n ch,.slice Ao p.no co] 26))
  refine⟨ny,fun _=>ratZ,none,0,Ay,cy,?_,fun j hj=>absurd hj jupy,by simp,y_0.out.congr (fun i _=>by simp),?_,KY1.out.below hbb,KR1.out.below hbb,KC1.out.below hbb,K1.out.below hbb,Blk.new _ _ jupy _ _,HB1.out.trans (hbb.mono HB1.out.size),by simp⟩
  ·rw [show min ([]:List ColX).length p.no=0 by simp];exact OwnR.nil
  ·rw [show min ([]:List ColX).length p.no=0 by simp];exact(Blk.new _ _ rfl _ _).alloc_ _
 have hgx:w.heap.size+1+1+1<w1.heap.size:=KC1.out.lt
 clear k0 k1 k2 k3 k4 kl K1 KY1 KR1 KC1
 gi_wp2
 refine rangeOwn (α:=ColX) (gf:=68) (lb := #[.pointer (some ⟨w1.heap.size+1,0,none⟩)]) (encs:=encC) (M:=LpM w (w1.heap.size+1) #[.slice Ac p.cost.n cc,.slice Ar p.m cr,.slice Al p.lo.n cl,.slice Ah p.hi.n ch,.slice Ao p.no co]) (G:=fun pre x _=>pre ++ [x] <+: colL p) (Kp:=KpI) (S:=fun xs=>xs=colL p) (Sp:=fun pre=>pre <+: colL p) (N:=(colL p).length)
  rfl (enters_of Tryz.func68 jo0f rfl) (fun x=>rfl) (fun W1 _ _=>cols_seq p_0.out)
  (fun pre V=>BackI (k+l+1) l p w pl ny y w1.heap.size (w1.heap.size+1) #[.slice Ac p.cost.n cc,.slice Ar p.m cr,.slice Al p.lo.n cl,.slice Ah p.hi.n ch,.slice Ao p.no co] pre V) (fun c _ V=>BackX p w ny c V)
  (fun pre x a' V => ∃g6,a' = { tmps := #[(.agg #[.slice Ac p.cost.n cc,.slice Ar p.m cr,.slice Al p.lo.n cl,.slice Ah p.hi.n ch,.slice Ao p.no co]),.slice Ay ny cy,.pointer (some ⟨w.heap.size,0,none⟩),.pointer (some ⟨w.heap.size+1,0,none⟩),.pointer (some ⟨w.heap.size+1+1,0,none⟩),.pointer (some ⟨w.heap.size+1+1+1,0,none⟩),.pointer (some ⟨w1.heap.size,0,none⟩),(.pointer (some ⟨g6,0,none⟩)),(.agg #[.slice Ac p.cost.n cc,.slice Ar p.m cr,.slice Al p.lo.n cl,.slice Ah p.hi.n ch,.slice Ao p.no co]),.bool true,.bool false,(.agg #[.slice Ac p.cost.n cc,.slice Ar p.m cr,.slice Al p.lo.n cl,.slice Ah p.hi.n ch,.slice Ao p.no co]),.func (.func 68) #[] #[.pointer (some ⟨w1.heap.size+1,0,none⟩)],(.agg #[.int .i64 x.v,.int .i64 x.r,.int .i64 x.u]),undef,undef,undef,undef,undef,undef,undef,undef,undef,undef,undef,undef,undef,undef,undef,undef,undef,undef,undef,undef,undef,undef,undef,undef,undef],defers := [] } ∧Blk V g6 67 #[.int .i64 x.v,.int .i64 x.r,.int .i64 x.u]∧BackI (k+l+1) l p w pl ny y w1.heap.size (w1.heap.size+1) #[.slice Ac p.cost.n cc,.slice Ar p.m cr,.slice Al p.lo.n cl,.slice Ah p.hi.n ch,.slice Ao p.no co] pre V∧pre ++ [x] <+: colL p)
  ?hM (fun pre V V' h hb=>h.below hb) (fun _ _ _ _ h hb=>h.below hb) ?hIp ?hIxp ?hAp (fun h h'=>h.trans h') (fun V r o hl=>kpI_put hl o) HI0.out ?assign ?body ?done ?stop
 case hM =>
  rintro pre V ⟨_,_,_,_,_,_,_,_,_,_,_,_,_,_,_,h10,h11,_⟩
  exact⟨h11,h10⟩
 case hIp=>exact fun pre V r o hl h=>h.put hl o jb6b
 case hIxp=>exact fun c pre V r o hl h=>h.put hl o jb6b
 case hAp =>
  rintro pre x a' V r o hl ⟨g6,rfl,h6,hi,hg⟩
  exact⟨g6,rfl,put_other hl o h6,hi.put hl o jb6b,hg⟩
 case assign =>
  intro pre x V r K hi hg hl hd hlen hK
  gi_wp2
  exact hK _ _ ⟨_,rfl,Blk.new _ _ rfl _ _,hi.below (below_new _ _),hg⟩ ((below_new V _).block _ (Array.getElem?_eq_some_iff.1 hd).1) ((below_new V _).block _ (Array.getElem?_eq_some_iff.1 hl).1) (KpI.of_below (below_new V _))
 case body =>
  rintro pre x a' V ⟨g6,rfl,h6,⟨m,X,Ax,cx,Aw,cw,hi⟩,hg⟩ hd ⟨rl,hl⟩
  have HI:=Lib.hid hi
  have K6:=Lib.hid h6
  have HD:=Lib.hid hd
  have HL:=Lib.hid hl
  have HG:=Lib.hid hg
  clear hi h6 hd hl hg HI0
  obtain⟨g1',g2',g3',g4',g5',g6',g7',g8',g9',g10',g11',g12'⟩:=HI.out
  obtain⟨y0,yl⟩:=g6'.use1
  obtain⟨x0,xl⟩:=g5'.use1
  obtain⟨r0,rl'⟩:=g7'.use1
  obtain⟨c0,cl'⟩:=g8'.use1
  have rf:=g7'.into1
  have cf:=g8'.into1
  have yf:=g6'.into1
  obtain⟨q0,q1,q2,ql⟩:=K6.out.use3
  obtain⟨k0,k1,k2,k3,k4,kl⟩:=g9'.use5
  by_cases hm0:m=0
  ·subst hm0
   gi_wp2
   exact⟨⟨(heap_setCell_other _ _ _ _ js0a).trans (heap_setCell_other _ _ _ _ js0a),(heap_setCell_other _ _ _ _ js0a).trans (heap_setCell_other _ _ _ _ js0a)⟩,rfl,by have:=pre_lt HG.out;omega,(g7'.set_ 0 (.slice none 0 0)).other j0i3 0 _,(g8'.other j0i3 0 (.slice none 0 0)).set_ 0 (.int .i64 1),Below.setCell (Below.setCell g11' js0a _) js0a _⟩
  ·obtain⟨m',rfl⟩ : ∃m',m=m'+1:=⟨m - 1,by omega⟩
   obtain⟨ad,c',⟨b6,A6,n6,c6,d6,B6,m6,k6⟩,e1,hc',hm',hay,hEy⟩:=g4'.at_ (i:=0) j0i3
   simp only [Value.slice.injEq] at e1
   obtain⟨rfl,_,rfl⟩:=e1
   rcases col_v HG.out with ⟨hq,hv⟩ | ⟨hq,hv⟩
   ·obtain⟨xv,xr,xu⟩:=x
    dsimp only at hv q0 q1 q2
    subst hv
    have hmn:min pre.length p.no=pre.length := j0i3
    have hmn2:min (pre.length+1) p.no=pre.length+1 := j0i3
    rw [hmn] at g1' g2' g5' HI x0
    have hln:pre.length<100:=by have:=HMX.out.1;omega
    have HQ:Hid (RowQ false k w (.slice Al p.lo.n cl) p.lo.n p.lo.q):=by
     obtain⟨_,_,_,_,_,e0,_,_,h3,_,_⟩:=p_0.out
     simp only [Value.agg.injEq,Array.mk.injEq,List.cons.injEq,and_true] at e0
     obtain⟨_,_,rfl,_,_⟩:=e0
     exact h3.rowQ
    have hjl:pre.length<p.lo.n:=by have h3:=HMX.out.1;omega
    obtain⟨ld,c1,⟨b5,A5,n5,c5,d5,B5,m5,k5⟩,e1,_,_,hal,hEl⟩:=HQ.out.at_ hjl
    simp only [Value.slice.injEq] at e1
    obtain⟨rfl,_,rfl⟩:=e1
    have hjl':(pre.length:Int)<(p.lo.n:Int) := j0i3
    have hj0:(0:Int)≤(pre.length:Int) := j0i3
    have HAL:=Lib.hid hal
    have HAY:=Lib.hid (show RatAt w ad ⟨b6,A6,n6,c6,d6,B6,m6,k6⟩ from hay)
    have HEL:=Lib.hid (hEl.2.below g11')
    have HEY:=Lib.hid (show LimQ l V (.agg #[.bool b6,.slice A6 n6 c6,.bool d6,.slice B6 m6 k6]) (y pre.length) from(hEy.below g11').2)
    obtain⟨u0,u1,u2,u3,u4⟩:=HAL.out.below g11'
    obtain⟨v0,v1,v2,v3,v4⟩:=HAY.out.below g11'
    have hgg1:(w1.heap.size:Nat)≠w.heap.size := j0i3
    have hgg2:(w1.heap.size:Nat)≠g6:=by
     intro e
     have e1:V.heap[w1.heap.size]? = _:=g5'
     have e2:V.heap[g6]? = _:=K6.out
     rw [e,e2] at e1
     injection e1 with e1
     injection e1 with _ e1 _
     exact absurd e1 jpu1
    have hgg3:(w1.heap.size:Nat)≠w.heap.size+1 := j0i3
    have hyb:=HAY.out.1
    have hgg4:(w1.heap.size:Nat)≠(ld.add (pre.length*4)).block:=by have:=hal.1;omega
    have hgg5:(w1.heap.size:Nat)≠ad.block := j0i3
    gi_wp2
    refine region_cut (fun a a' W' => ∃ (z:RatD) (aa:Addr) (A9:Option Addr) (c9:Nat) (X9:Nat→RatD),a'=(((((((((((((a.put (some 20) (.slice Ax pre.length cx)).put (some 21) (.pointer (some ⟨w.heap.size,2,none⟩))).put (some 22) (.slice (some ld) p.lo.n cl)).put (some 23) (.pointer (some ⟨g6,0,none⟩))).put (some 24) (.int .i64 (pre.length:Nat))).put (some 25) (.pointer (some (ld.add (pre.length*4))))).put (some 26) (.agg #[.bool b5,.slice A5 n5 c5,.bool d5,.slice B5 m5 k5])).put (some 27) (.slice (some ad) (m'+1) cw)).put (some 28) (.pointer (some ad))).put (some 29) (.agg #[.bool b6,.slice A6 n6 c6,.bool d6,.slice B6 m6 k6])).put (some 30) z.val).put (some 31) (.slice (some aa) 1 1)).put (some 32) (.slice A9 (pre.length+1) c9))∧Hid (BackP (k+l+1) l p w pl ny y w1.heap.size (w1.heap.size+1) #[.slice Ac p.cost.n cc,.slice Ar p.m cr,.slice (some ld) p.lo.n cl,.slice Ah p.hi.n ch,.slice Ao p.no co] pre.length (pre.length+1) (m'+1) X9 A9 c9 (some ad) cw W')∧Hid (KpI V W')∧Hid (NC V W')) ?_ ?_
    ·refine region_round_held (S:=(fun w'=>w'.cell? ⟨w.heap.size,2,none⟩=some (.slice (some ld) p.lo.n cl)∧w'.cell? ⟨g6,0,none⟩=some (.int .i64 (pre.length:Nat))∧w'.cell? ⟨w.heap.size+1,0,none⟩=some (.slice (some ad) (m'+1) cw)∧w'.cell? (ld.add (pre.length*4))=some (.bool b5)∧w'.cell? ⟨(ld.add (pre.length*4)).block,(ld.add (pre.length*4)).off+1,none⟩=some (.slice A5 n5 c5)∧w'.cell? ⟨(ld.add (pre.length*4)).block,(ld.add (pre.length*4)).off+2,none⟩=some (.bool d5)∧w'.cell? ⟨(ld.add (pre.length*4)).block,(ld.add (pre.length*4)).off+3,none⟩=some (.slice B5 m5 k5)∧w'.cell? ad=some (.bool b6)∧w'.cell? ⟨ad.block,ad.off+1,none⟩=some (.slice A6 n6 c6)∧w'.cell? ⟨ad.block,ad.off+2,none⟩=some (.bool d6)∧w'.cell? ⟨ad.block,ad.off+3,none⟩=some (.slice B6 m6 k6))) jo0f jo0f jtj1 ?_ (fun hHeld=>?_)
     ·(first | (refine⟨?_,?_,?_,?_,?_,?_,?_,?_,?_,?_,?_⟩ <;> (first | with_reducible assumption | ((with_reducible refine Eq.trans (cell_drew _ _) ?_);with_reducible assumption) | ((repeat rw [World.cell?_setCell_far _ _ _ _ jt4q]);with_reducible assumption) | go_keep)) | go_keep)
     refine jtk 1 ?_
     refine jtk 2 ?_
     refine jtk 3 ?_
     refine jtk 4 ?_
     refine jtk 5 ?_
     refine jtk 6 ?_
     refine jtk 7 ?_
     refine jtk 8 ?_
     refine jtk 9 ?_
     refine wpAnyH_ready (rs := [0,10]) jo0f jupy ?_
     refine AllReadyH.cons rfl (fun Kz hKz=>?_) (AllReadyH.cons rfl (fun Kz hKz=>?_) AllReadyH.nil)
     ·go_simp
      refine hKz.out _ _ jcsn (fun hHeld=>?_)
      clear hKz Kz
      refine jsp ?_
      refine jrd 10 fun Kz hKz=>?_
      go_simp
      refine Calls.mono (q_add HEL.out.drew_ HEY.out.drew_ j0i3 j0i3 h1 h2) ?_;rintro e w5 ⟨v,rfl,h,hb⟩;obtain⟨b5',A5',n5',c5',d5',B5',m5',k5',rfl,-,-,-,-,-⟩:=h.form;have hBw:=(show Below V.heap.size V w5 from jc22);have HE5:=Lib.hid (EQ.of (p:=true) h (BQ.add (HEL.out.bq h1) (HEY.out.bq h2) (Nat.le_refl (k+l+1))));have HI5:=Lib.hid (HI.out.below hBw);have K65:=Lib.hid (K6.out.below hBw);have HK5:=Lib.hid (KpI.of_below hBw);have HN5:=Lib.hid (nc_below hBw);obtain⟨f1,f2,f3,f4,f5,f6,f7,f8,f9,f10,f11,f12⟩:=HI5.out;obtain⟨y0',yl'⟩:=f6.use1;obtain⟨x0',xl'⟩:=f5.use1;obtain⟨q0',q1',q2',ql'⟩:=K65.out.use3;obtain⟨k0',k1',k2',k3',k4',kl'⟩:=f9.use5;obtain⟨u0',u1',u2',u3',u4'⟩:=HAL.out.below f11;obtain⟨v0',v1',v2',v3',v4'⟩:=HAY.out.below f11;clear h hb hBw y0 yl x0 xl r0 rl' c0 cl' rf cf yf q0 q1 q2 ql k0 k1 k2 k3 k4 kl u0 u1 u2 u3 u4 v0 v1 v2 v3 v4
      refine hKz.out _ _ jcsn (fun hHeld=>?_)
      clear hKz Kz
      refine jsp ?_
      refine jrd 11 fun Kz hKz=>?_
      go_simp
      refine hKz.out _ _ jcsn (fun hHeld=>?_)
      clear hKz Kz
      refine jsp ?_
      refine jrd 12 fun Kz hKz=>?_
      refine step_append_rats rfl rfl (.tmp 20) (.tmp 31) rfl (base:=w1.heap.size+2) (n:=pre.length) (m:=1) (c:=1) (X:=X) (Y:=fun _=>⟨b5',A5',n5',c5',d5',B5',m5',k5'⟩) rfl (OwnR.alloc_ f1 _) rfl (rowAt_one w5 _ rfl ⟨b5',A5',n5',c5',d5',B5',m5',k5'⟩) (fun e=>by cases e) j0i3 jb6b ?_;intro v8 w8 ho hf;obtain⟨A8,c8,rfl,_⟩:=ho.rowAt;have hb8:=(below_new w5 (.cells #[.bool b5',.slice A5' n5' c5',.bool d5',.slice B5' m5' k5'] 36));have HIA:=Lib.hid (HI5.out.below hb8);have HEA:=Lib.hid (HE5.out.below hb8);have K68:=Lib.hid (Blk.fz (K65.out.alloc_ _) hf jpu1);have HO8:=Lib.hid ho;have HF8:=Lib.hid hf;have HW8:=Lib.hid (show Below w.heap.size w w8 from(f11.trans (hb8.mono f11.size)).trans (hf.below.mono j0i3));have e6:=(f6.alloc_ (.cells #[.bool b5',.slice A5' n5' c5',.bool d5',.slice B5' m5' k5'] 36)).low hf.below j0i3;have e5:=(f5.alloc_ (.cells #[.bool b5',.slice A5' n5' c5',.bool d5',.slice B5' m5' k5'] 36)).low hf.below j0i3;have e9:=(f9.alloc_ (.cells #[.bool b5',.slice A5' n5' c5',.bool d5',.slice B5' m5' k5'] 36)).low hf.below j0i3;have HK8:=Lib.hid ((HK5.out.trans (KpI.of_below hb8)).trans (kpI_fz hf jpu1));have HN8:=Lib.hid ((HN5.out.trans (nc_below hb8)).trans (nc_fz hf));clear ho hf hb8 f1 f2 f5 f6 f7 f8 f9 f10 f11 f12 y0' yl' x0' xl' q0' q1' q2' ql' k0' k1' k2' k3' k4' kl' u0' u1' u2' u3' u4' v0' v1' v2' v3' v4';obtain⟨y0,yl⟩:=e6.use1;obtain⟨x0,xl⟩:=e5.use1;have xf:=e5.into1;obtain⟨q0,q1,q2,ql⟩:=K68.out.use3;obtain⟨k0,k1,k2,k3,k4,kl⟩:=e9.use5;obtain⟨u0,u1,u2,u3,u4⟩:=HAL.out.below HW8.out;obtain⟨v0,v1,v2,v3,v4⟩:=HAY.out.below HW8.out
      refine hKz.out _ _ jcsn (fun hHeld=>?_)
      clear hKz Kz
      refine jsp ?_
      refine jrd 13 fun Kz hKz=>?_
      go_simp
      refine hKz.out _ _ jcsn (fun hHeld=>?_)
      clear hKz Kz
      refine jsp ?_
      (try simp only [Act.put,List.setIfInBounds_toArray,List.set_cons_zero,List.set_cons_succ,List.getElem_toArray,List.getElem_cons_succ,List.getElem_cons_zero])
      refine wpAnyH_done jo0f ?_ _
      exact⟨⟨b5',A5',n5',c5',d5',B5',m5',k5'⟩,⟨w5.heap.size,0,none⟩,A8,c8,_,rfl,BackP.grown HIA.out hgx rfl HEA.out HO8.out HF8.out,HK8.out.trans (kpI_cell e5 jpu1),HN8.out.trans (nc_cell e5)⟩
     ·go_simp
      refine Calls.mono (q_add HEL.out.drew_ HEY.out.drew_ j0i3 j0i3 h1 h2) ?_;rintro e w5 ⟨v,rfl,h,hb⟩;obtain⟨b5',A5',n5',c5',d5',B5',m5',k5',rfl,-,-,-,-,-⟩:=h.form;have hBw:=(show Below V.heap.size V w5 from jc22);have HE5:=Lib.hid (EQ.of (p:=true) h (BQ.add (HEL.out.bq h1) (HEY.out.bq h2) (Nat.le_refl (k+l+1))));have HI5:=Lib.hid (HI.out.below hBw);have K65:=Lib.hid (K6.out.below hBw);have HK5:=Lib.hid (KpI.of_below hBw);have HN5:=Lib.hid (nc_below hBw);obtain⟨f1,f2,f3,f4,f5,f6,f7,f8,f9,f10,f11,f12⟩:=HI5.out;obtain⟨y0',yl'⟩:=f6.use1;obtain⟨x0',xl'⟩:=f5.use1;obtain⟨q0',q1',q2',ql'⟩:=K65.out.use3;obtain⟨k0',k1',k2',k3',k4',kl'⟩:=f9.use5;obtain⟨u0',u1',u2',u3',u4'⟩:=HAL.out.below f11;obtain⟨v0',v1',v2',v3',v4'⟩:=HAY.out.below f11;clear h hb hBw y0 yl x0 xl r0 rl' c0 cl' rf cf yf q0 q1 q2 ql k0 k1 k2 k3 k4 kl u0 u1 u2 u3 u4 v0 v1 v2 v3 v4
      refine hKz.out _ _ jcsn (fun hHeld=>?_)
      clear hKz Kz
      refine jsp ?_
      refine wpAnyH_ready (rs := [0,11]) jo0f jupy ?_
      refine AllReadyH.cons rfl (fun Kz hKz=>?_) (AllReadyH.cons rfl (fun Kz hKz=>?_) AllReadyH.nil)
      ·go_simp
       refine hKz.out _ _ jcsn (fun hHeld=>?_)
       clear hKz Kz
       refine jsp ?_
       refine jrd 11 fun Kz hKz=>?_
       go_simp
       refine hKz.out _ _ jcsn (fun hHeld=>?_)
       clear hKz Kz
       refine jsp ?_
       refine jrd 12 fun Kz hKz=>?_
       refine step_append_rats rfl rfl (.tmp 20) (.tmp 31) rfl (base:=w1.heap.size+2) (n:=pre.length) (m:=1) (c:=1) (X:=X) (Y:=fun _=>⟨b5',A5',n5',c5',d5',B5',m5',k5'⟩) rfl (OwnR.alloc_ f1 _) rfl (rowAt_one w5 _ rfl ⟨b5',A5',n5',c5',d5',B5',m5',k5'⟩) (fun e=>by cases e) j0i3 jb6b ?_;intro v8 w8 ho hf;obtain⟨A8,c8,rfl,_⟩:=ho.rowAt;have hb8:=(below_new w5 (.cells #[.bool b5',.slice A5' n5' c5',.bool d5',.slice B5' m5' k5'] 36));have HIA:=Lib.hid (HI5.out.below hb8);have HEA:=Lib.hid (HE5.out.below hb8);have K68:=Lib.hid (Blk.fz (K65.out.alloc_ _) hf jpu1);have HO8:=Lib.hid ho;have HF8:=Lib.hid hf;have HW8:=Lib.hid (show Below w.heap.size w w8 from(f11.trans (hb8.mono f11.size)).trans (hf.below.mono j0i3));have e6:=(f6.alloc_ (.cells #[.bool b5',.slice A5' n5' c5',.bool d5',.slice B5' m5' k5'] 36)).low hf.below j0i3;have e5:=(f5.alloc_ (.cells #[.bool b5',.slice A5' n5' c5',.bool d5',.slice B5' m5' k5'] 36)).low hf.below j0i3;have e9:=(f9.alloc_ (.cells #[.bool b5',.slice A5' n5' c5',.bool d5',.slice B5' m5' k5'] 36)).low hf.below j0i3;have HK8:=Lib.hid ((HK5.out.trans (KpI.of_below hb8)).trans (kpI_fz hf jpu1));have HN8:=Lib.hid ((HN5.out.trans (nc_below hb8)).trans (nc_fz hf));clear ho hf hb8 f1 f2 f5 f6 f7 f8 f9 f10 f11 f12 y0' yl' x0' xl' q0' q1' q2' ql' k0' k1' k2' k3' k4' kl' u0' u1' u2' u3' u4' v0' v1' v2' v3' v4';obtain⟨y0,yl⟩:=e6.use1;obtain⟨x0,xl⟩:=e5.use1;have xf:=e5.into1;obtain⟨q0,q1,q2,ql⟩:=K68.out.use3;obtain⟨k0,k1,k2,k3,k4,kl⟩:=e9.use5;obtain⟨u0,u1,u2,u3,u4⟩:=HAL.out.below HW8.out;obtain⟨v0,v1,v2,v3,v4⟩:=HAY.out.below HW8.out
       refine hKz.out _ _ jcsn (fun hHeld=>?_)
       clear hKz Kz
       refine jsp ?_
       refine jrd 13 fun Kz hKz=>?_
       go_simp
       refine hKz.out _ _ jcsn (fun hHeld=>?_)
       clear hKz Kz
       refine jsp ?_
       (try simp only [Act.put,List.setIfInBounds_toArray,List.set_cons_zero,List.set_cons_succ,List.getElem_toArray,List.getElem_cons_succ,List.getElem_cons_zero])
       refine wpAnyH_done jo0f ?_ _
       exact⟨⟨b5',A5',n5',c5',d5',B5',m5',k5'⟩,⟨w5.heap.size,0,none⟩,A8,c8,_,rfl,BackP.grown HIA.out hgx rfl HEA.out HO8.out HF8.out,HK8.out.trans (kpI_cell e5 jpu1),HN8.out.trans (nc_cell e5)⟩
      ·go_simp
       refine hKz.out _ _ jcsn (fun hHeld=>?_)
       clear hKz Kz
       refine jsp ?_
       refine jrd 0 fun Kz hKz=>?_
       go_simp
       refine hKz.out _ _ jcsn (fun hHeld=>?_)
       clear hKz Kz
       refine jsp ?_
       refine jrd 12 fun Kz hKz=>?_
       refine step_append_rats rfl rfl (.tmp 20) (.tmp 31) rfl (base:=w1.heap.size+2) (n:=pre.length) (m:=1) (c:=1) (X:=X) (Y:=fun _=>⟨b5',A5',n5',c5',d5',B5',m5',k5'⟩) rfl (OwnR.alloc_ f1 _) rfl (rowAt_one w5 _ rfl ⟨b5',A5',n5',c5',d5',B5',m5',k5'⟩) (fun e=>by cases e) j0i3 jb6b ?_;intro v8 w8 ho hf;obtain⟨A8,c8,rfl,_⟩:=ho.rowAt;have hb8:=(below_new w5 (.cells #[.bool b5',.slice A5' n5' c5',.bool d5',.slice B5' m5' k5'] 36));have HIA:=Lib.hid (HI5.out.below hb8);have HEA:=Lib.hid (HE5.out.below hb8);have K68:=Lib.hid (Blk.fz (K65.out.alloc_ _) hf jpu1);have HO8:=Lib.hid ho;have HF8:=Lib.hid hf;have HW8:=Lib.hid (show Below w.heap.size w w8 from(f11.trans (hb8.mono f11.size)).trans (hf.below.mono j0i3));have e6:=(f6.alloc_ (.cells #[.bool b5',.slice A5' n5' c5',.bool d5',.slice B5' m5' k5'] 36)).low hf.below j0i3;have e5:=(f5.alloc_ (.cells #[.bool b5',.slice A5' n5' c5',.bool d5',.slice B5' m5' k5'] 36)).low hf.below j0i3;have e9:=(f9.alloc_ (.cells #[.bool b5',.slice A5' n5' c5',.bool d5',.slice B5' m5' k5'] 36)).low hf.below j0i3;have HK8:=Lib.hid ((HK5.out.trans (KpI.of_below hb8)).trans (kpI_fz hf jpu1));have HN8:=Lib.hid ((HN5.out.trans (nc_below hb8)).trans (nc_fz hf));clear ho hf hb8 f1 f2 f5 f6 f7 f8 f9 f10 f11 f12 y0' yl' x0' xl' q0' q1' q2' ql' k0' k1' k2' k3' k4' kl' u0' u1' u2' u3' u4' v0' v1' v2' v3' v4';obtain⟨y0,yl⟩:=e6.use1;obtain⟨x0,xl⟩:=e5.use1;have xf:=e5.into1;obtain⟨q0,q1,q2,ql⟩:=K68.out.use3;obtain⟨k0,k1,k2,k3,k4,kl⟩:=e9.use5;obtain⟨u0,u1,u2,u3,u4⟩:=HAL.out.below HW8.out;obtain⟨v0,v1,v2,v3,v4⟩:=HAY.out.below HW8.out
       refine hKz.out _ _ jcsn (fun hHeld=>?_)
       clear hKz Kz
       refine jsp ?_
       refine jrd 13 fun Kz hKz=>?_
       go_simp
       refine hKz.out _ _ jcsn (fun hHeld=>?_)
       clear hKz Kz
       refine jsp ?_
       (try simp only [Act.put,List.setIfInBounds_toArray,List.set_cons_zero,List.set_cons_succ,List.getElem_toArray,List.getElem_cons_succ,List.getElem_cons_zero])
       refine wpAnyH_done jo0f ?_ _
       exact⟨⟨b5',A5',n5',c5',d5',B5',m5',k5'⟩,⟨w5.heap.size,0,none⟩,A8,c8,_,rfl,BackP.grown HIA.out hgx rfl HEA.out HO8.out HF8.out,HK8.out.trans (kpI_cell e5 jpu1),HN8.out.trans (nc_cell e5)⟩
    ·rintro a' W' ⟨z,aa,A9,c9,X9,rfl,HI9,HK9,HF9⟩
     simp only [Act.put,List.setIfInBounds_toArray,List.set_cons_zero,List.set_cons_succ,List.getElem_toArray,List.getElem_cons_succ,List.getElem_cons_zero]
     obtain⟨f1,f2,f3,f4,f5,f6,f7,f8,f9,f10,f11,f12⟩:=HI9.out
     clear y0 yl x0 xl r0 rl' c0 cl' rf cf yf q0 q1 q2 ql k0 k1 k2 k3 k4 kl u0 u1 u2 u3 u4 v0 v1 v2 v3 v4
     obtain⟨y0,yl⟩:=f6.use1
     have yf:=f6.into1
     have hDD:=(HF9.out _ _ HD.out (fun cs t m e=>by cases e)).trans HD.out.symm
     have hLL:=(HF9.out _ _ HL.out (fun cs t m e=>by cases e)).trans HL.out.symm
     by_cases hc1:cw=1
     ·subst hc1
      obtain rfl:m'=0 := j0i3
      gi_wp2
      exact⟨⟨(heap_setCell_other _ _ _ _ js0a).trans hDD,(heap_setCell_other _ _ _ _ js0a).trans hLL⟩,HK9.out.trans (kpI_cell f6 jpu1),BackI.next HI9.out hmn2 hgx rfl jupy⟩
     ·gi_wp2
      exact⟨⟨(heap_setCell_other _ _ _ _ js0a).trans hDD,(heap_setCell_other _ _ _ _ js0a).trans hLL⟩,HK9.out.trans (kpI_cell f6 jpu1),BackI.next HI9.out hmn2 hgx rfl (by rw [if_neg hc1])⟩
   ·obtain⟨xv,xr,xu⟩:=x
    dsimp only at hv q0 q1 q2
    subst hv
    have hmn:min (pre.length+1) p.no=min pre.length p.no := j0i3
    by_cases hc1:cw=1
    ·subst hc1
     obtain rfl:m'=0 := j0i3
     gi_wp2
     exact⟨⟨heap_setCell_other _ _ _ _ js0a,heap_setCell_other _ _ _ _ js0a⟩,kpI_cell g6' jpu1,BackI.next HI.out hmn hgx rfl jupy⟩
    ·gi_wp2
     exact⟨⟨heap_setCell_other _ _ _ _ js0a,heap_setCell_other _ _ _ _ js0a⟩,kpI_cell g6' jpu1,BackI.next HI.out hmn hgx rfl (by rw [if_neg hc1])⟩
 case done =>
  rintro xs W rfl hi hd
  obtain⟨m,X,Ax,cx,Aw,cw,g1',g2',g3',g4',g5',g6',g7',g8',g9',g10',g11',g12'⟩:=hi
  have HD:=Lib.hid hd
  have hnc : ∀c t m,(Obj.deferred (some []))≠ .cells c t m:=fun c t m e=>by cases e
  have hN:min (colL p).length p.no=p.cost.n:=by
   have:p.no≤(colL p).length:=by unfold colL;rw [List.length_append,List.length_append,varL_len];omega
   rw [Nat.min_eq_right this]
   exact HMX.out.1.2.2.1
  rw [hN] at g1' g2' g5'
  have hn24:=HMX.out.1.2.1
  obtain⟨y0,yl⟩:=g6'.use1
  obtain⟨x0,xl⟩:=g5'.use1
  obtain⟨r0,rl⟩:=g7'.use1
  obtain⟨c0,cl'⟩:=g8'.use1
  have rf:=g7'.into1
  have cf:=g8'.into1
  have hq3:(w.heap.size+1+1+1:Nat)≠w.heap.size+1+1 := j0i3
  clear HI0 hd hN
  by_cases hm0:m=0
  ·subst hm0
   gi_wp2
   obtain⟨W2,hW⟩ : ∃V2,V2=(W.setCell ⟨w.heap.size+1+1,0,none⟩ (.slice Ax p.cost.n cx)).setCell ⟨w.heap.size+1+1+1,0,none⟩ (.int .i64 0):=⟨_,rfl⟩
   rw [← hW]
   have b0:=(g7'.set_ 0 (.slice Ax p.cost.n cx)).other (show w.heap.size+1+1≠w.heap.size+1+1+1 by omega) 0 (.int .i64 0)
   have b1:=(g8'.other (show w.heap.size+1+1+1≠w.heap.size+1+1 by omega) 0 (.slice Ax p.cost.n cx))
   have l1:Lo (w1.heap.size+2) W (W.setCell ⟨w.heap.size+1+1,0,none⟩ (.slice Ax p.cost.n cx)):=lo_cell g7' (nu1 nu) j0i3
   have l2:=lo_cell (base:=w1.heap.size+2) (i:=0) (v := .int .i64 0) b1 (nu1 nu) j0i3
   have b2:=b1.set_ 0 (.int .i64 0)
   rw [← hW] at b0 l2 b2
   have hlo:=l1.trans l2
   have hbw:Below w.heap.size w W2 := jhhx
   have HD2:=Lib.hid ((hlo.2.2 _ jupy).trans HD.out)
   have ho:=hlo.own g1'
   have hE:=fun j (hj:j<p.cost.n)=>(g2' j hj).kp hlo.1
   obtain⟨x0',-⟩:=(b0.putN HD2.out hnc (.deferred none)).use1
   obtain⟨x1',-⟩:=(b2.putN HD2.out hnc (.deferred none)).use1
   rw [World.size_alloc,World.size_alloc] at x0' x1'
   refine⟨by simp,.inl ⟨_,_,rfl,run_takeDeferred HD2.out,?_⟩⟩
   exact⟨.tuple #[.slice Ax p.cost.n cx,.int .i64 0],by simp [results,Tryz.results20,go_sem,x0',x1'],.slice Ax p.cost.n cx,.inl ⟨by omega,rfl,OwnR.rowT (OwnN.putN HD2.out hnc (.deferred none) ho) j0i3 (fun j hj=>(hE j hj).kp (kp_putN HD2.out hnc (.deferred none)))⟩,put_belowW (w:=w) (.deferred none) js0a hbw⟩
  ·obtain⟨m',rfl⟩ : ∃m',m=m'+1:=⟨m - 1,by omega⟩
   gi_wp2
   obtain⟨W2,hW⟩ : ∃V2,V2=(W.setCell ⟨w.heap.size+1+1,0,none⟩ (.slice none 0 0)).setCell ⟨w.heap.size+1+1+1,0,none⟩ (.int .i64 1):=⟨_,rfl⟩
   rw [← hW]
   have b0:=(g7'.set_ 0 (.slice none 0 0)).other (show w.heap.size+1+1≠w.heap.size+1+1+1 by omega) 0 (.int .i64 1)
   have b1:=(g8'.other (show w.heap.size+1+1+1≠w.heap.size+1+1 by omega) 0 (.slice none 0 0))
   have b2:=b1.set_ 0 (.int .i64 1)
   have l1:Lo (w1.heap.size+2) W (W.setCell ⟨w.heap.size+1+1,0,none⟩ (.slice none 0 0)):=lo_cell g7' (nu1 nu) j0i3
   have l2:=lo_cell (base:=w1.heap.size+2) (i:=0) (v := .int .i64 1) b1 (nu1 nu) j0i3
   rw [← hW] at b0 l2 b2
   have hlo:=l1.trans l2
   have hbw:Below w.heap.size w W2 := jhhx
   have HD2:=Lib.hid ((hlo.2.2 _ jupy).trans HD.out)
   obtain⟨x0',-⟩:=(b0.putN HD2.out hnc (.deferred none)).use1
   obtain⟨x1',-⟩:=(b2.putN HD2.out hnc (.deferred none)).use1
   rw [World.size_alloc,World.size_alloc] at x0' x1'
   refine⟨by simp,.inl ⟨_,_,rfl,run_takeDeferred HD2.out,?_⟩⟩
   exact⟨.tuple #[.slice none 0 0,.int .i64 1],by simp [results,Tryz.results20,go_sem,x0',x1'],.slice none 0 0,.inr ⟨by omega,rfl⟩,put_belowW (w:=w) (.deferred none) js0a hbw⟩
 case stop =>
  rintro c pre W hpre hx hd
  obtain⟨rfl,hlt,h1',h2',h3'⟩:=hx
  have HD:=Lib.hid hd
  have hnc : ∀c t m,(Obj.deferred (some []))≠ .cells c t m:=fun c t m e=>by cases e
  clear HI0
  gi_wp2
  refine⟨by simp,.inl ⟨_,_,rfl,run_takeDeferred HD.out,?_⟩⟩
  obtain⟨x0,-⟩:=(h1'.putN HD.out hnc (.deferred none)).use1
  obtain⟨x1,-⟩:=(h2'.putN HD.out hnc (.deferred none)).use1
  rw [World.size_alloc,World.size_alloc] at x0 x1
  exact⟨.tuple #[.slice none 0 0,.int .i64 1],by simp [results,Tryz.results20,go_sem,x0,x1],.slice none 0 0,.inr ⟨by omega,rfl⟩,put_belowW (w:=w) (.deferred none) js0a h3'⟩
end Go.Proofs.YtgilnmhejjpleaaGreat
