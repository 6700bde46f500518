/- The law's own slacks: the columns' numbers of variables. -/
import Derived.Test.YtgilnmhejjpleaaGreatPMin
import Derived.Test.YtgilnmhejjpleaaGreatPGd
import Derived.Test.YtgilnmhejjpleaaGreatPFs
import Derived.Test.YtgilnmhejjpleaaGreatPGe
namespace Go.Proofs.YtgilnmhejjpleaaGreat
open Go.RowKit
attribute [local go_sem ↓] Go.wp_at_zero Go.wp_at_succ
set_option linter.unusedVariables false
set_option linter.unusedSimpArgs false
theorem j1ot {P:Prop}(h:P:=by show _ = _; rw [h0]; rfl):P:=h
theorem j97i {P:Prop}(h:P:=by (try dsimp only); first | exact slk_cells2 HK.out HAX.out HAY.out | exact slk_cells2 HK.out.drew_ HAX.out HAY.out | exact slk_cells2 (HK.out.alloc_ _) HAX.out HAY.out):P:=h
theorem je35 {P:Prop}(h:P:=by first | exact slk_cells8 HK.out HA6.out H8.out | exact slk_cells8 HK.out.drew_ HA6.out H8.out.drew_ | exact slk_cells8 (HK.out.alloc_ _) HA6.out (H8.out.alloc_ _)):P:=h
theorem jgqb {P:Prop}(h:P:=by first | exact slk_cells2 HK.out HAX.out HAY.out | exact slk_cells2 HK.out.drew_ HAX.out HAY.out | exact slk_cells2 (HK.out.alloc_ _) HAX.out HAY.out):P:=h
theorem jjqn {P:Prop}(h:P:=by have := scnt_le p i; rw [List.length_append, yV_len, yS_len, HNO.out]; omega):P:=h
theorem jp1m {P:Prop}(h:P:=by (try dsimp only); first | exact slk_cells8 HK.out HA6.out H8.out | exact slk_cells8 HK.out.drew_ HA6.out H8.out.drew_ | exact slk_cells8 (HK.out.alloc_ _) HA6.out (H8.out.alloc_ _)):P:=h
def RowU(base:Nat)(w:World)(v:Value)(L:List Rat):Prop := ∃X,OwnR w base v L.length X∧∀j,j<L.length→EQ true 75 w (X j).val (L[j]?.getD 0)
section
variable {base:Nat} {w w':World} {v:Value} {L:List Rat}
theorem RowU.nil:RowU base w (.slice none 0 0) []:=⟨fun _=>ratZ,OwnR.nil,fun j hj=>absurd hj (Nat.not_lt_zero j)⟩
theorem RowU.below(h:RowU base w v L)(hb:Below w.heap.size w w'):RowU base w' v L:=by
 obtain⟨X,h1,h2⟩:=h
 exact⟨X,h1.below hb,fun j hj=>(h2 j hj).below hb⟩
theorem RowU.inside(h:RowU base w v L) {g:Nat}(e:v.ownBlock=some g):g<w.heap.size:=by
 obtain⟨X,h1,_⟩:=h
 exact(OwnN.inside h1 e).2
theorem RowU.rowT(h:RowU base w v L)(hn:L.length≤1000000):RowT true 75 w v L.length (fun k=>L[k]?.getD 0):=by
 obtain⟨X,h1,h2⟩:=h
 exact OwnR.rowT h1 hn h2
variable {P:Program} {ops:Array Oper} {o:Oper} {a:Act} {K:Act→World→Prop} {Q:Exit→Act→World→Prop} {E:Prop}
theorem step_app_u(hP:P=Tryz.prog)(hgd:o.guard=none)(s x:Operand)(ho:o.op = .call { callee := .builtin .append,args := #[s,x],argTypes := #[22,22] })
 {b b':Bool} {A A':Option Addr} {n c n' c' g:Nat} {q:Rat} (hs:a.eval s=v) (hown:RowU base w v L) (hx:a.eval x = .slice (some ⟨g,0,none⟩) 1 1) (hg:g=w.heap.size) (hE:EQ true 75 w (.agg #[.bool b,.slice A n c,.bool b',.slice A' n' c']) q) (hl:L.length≤999999) (hbase:base≤w.heap.size)
 (h : ∀v' w',RowU base w' v' (L ++ [q])→Below base w w'→(∀i t cs,Blk w i t cs→v.ownBlock≠some i→Blk w' i t cs)→K (a.put o.dst v') w') :
 if Region.wanted o (yielded ops a.tmps)=true then Oper.wp P o a (w.alloc (.cells #[.bool b,.slice A n c,.bool b',.slice A' n' c'] 36)) K Q else E:=by
 obtain⟨X,h1,h2⟩:=hown
 refine step_append_rats3 hP hgd s x ho (base:=base) (n:=L.length) (m:=1) (c:=1) (X:=X) (Y:=fun _=>⟨b,A,n,c,b',A',n',c'⟩) hs (OwnR.alloc_ h1 _) hx (rowAt_one w _ hg ⟨b,A,n,c,b',A',n',c'⟩) (fun e=>by cases e) j0i3 jb6b ?_
 intro v' w' ho hf hgr
 refine h v' w' ⟨appR X L.length (fun _=>⟨b,A,n,c,b',A',n',c'⟩),by rw [List.length_append];exact ho,fun j hj=>?_⟩ (((below_new w _).mono hbase).trans hf.below) (fun i t cs hb hne=>(hgr.1.block i (hb.alloc_ _).lt (fun e=>hne e.symm)).trans (hb.alloc_ _))
 rw [List.length_append] at hj
 by_cases hj1:j<L.length
 ·rw [appR_lt _ _ _ hj1,List.getElem?_append_left hj1]
  exact((h2 j hj1).alloc_ _).kp hf.keep
 ·obtain rfl:j=L.length:=by simp at hj;omega
  have:=appR_ge X L.length (fun _=>(⟨b,A,n,c,b',A',n',c'⟩:RatD)) 0
  rw [Nat.add_zero] at this
  rw [this,List.getElem?_append_right (Nat.le_refl _),Nat.sub_self]
  exact(hE.alloc_ _).kp hf.keep
end
def SlkK(w W:World)(P:Array Value):Prop:=Below w.heap.size w W∧Blk W w.heap.size 26 P
section
variable {w W W':World} {P:Array Value}
theorem SlkK.below(h:SlkK w W P)(hb:Below W.heap.size W W'):SlkK w W' P:=⟨below_trans h.1 hb,h.2.below hb⟩
theorem SlkK.alloc_(h:SlkK w W P)(o:Obj):SlkK w (W.alloc o) P:=h.below (below_new _ _)
theorem SlkK.low(h:SlkK w W P)(hb:Below (w.heap.size+1) W W'):SlkK w W' P:=⟨h.1.trans (hb.mono (Nat.le_succ _)),(hb.block _ (Nat.lt_succ_self _)).trans h.2⟩
theorem slk_cells2 {P0 P1 P2 P3 P4:Value} {a b:Addr} {x y:RatD}(hk:SlkK w W #[P0,P1,P2,P3,P4])(ha:RatAt w a x)(hb:RatAt w b y) :
 W.cell? ⟨w.heap.size,0,none⟩=some P0∧W.cell? ⟨w.heap.size,1,none⟩=some P1∧W.cell? ⟨w.heap.size,2,none⟩=some P2∧W.cell? ⟨w.heap.size,3,none⟩=some P3∧W.cell? ⟨w.heap.size,4,none⟩=some P4∧W.cell? a=some (.bool x.b)∧W.cell? ⟨a.block,a.off+1,none⟩=some (.slice x.A x.n x.c)∧W.cell? ⟨a.block,a.off+2,none⟩=some (.bool x.b')∧W.cell? ⟨a.block,a.off+3,none⟩=some (.slice x.A' x.n' x.c')∧W.cell? b=some (.bool y.b)∧W.cell? ⟨b.block,b.off+1,none⟩=some (.slice y.A y.n y.c)∧W.cell? ⟨b.block,b.off+2,none⟩=some (.bool y.b')∧W.cell? ⟨b.block,b.off+3,none⟩=some (.slice y.A' y.n' y.c'):=by
 obtain⟨k0,k1,k2,k3,k4,_⟩:=hk.2.use5
 obtain⟨_,a0,a1,a2,a3⟩:=ha.below hk.1
 obtain⟨_,b0,b1,b2,b3⟩:=hb.below hk.1
 exact⟨k0,k1,k2,k3,k4,a0,a1,a2,a3,b0,b1,b2,b3⟩
theorem slk_cells8 {P0 P1 P2 P3 P4 V0 V1 V2 V3:Value} {a:Addr} {g:Nat} {y:Rw6}(hk:SlkK w W #[P0,P1,P2,P3,P4])(ha:Rw6At w a y)(h8:Blk W g 36 #[V0,V1,V2,V3]) :
 W.cell? ⟨w.heap.size,0,none⟩=some P0∧W.cell? ⟨w.heap.size,1,none⟩=some P1∧W.cell? ⟨w.heap.size,2,none⟩=some P2∧W.cell? ⟨w.heap.size,3,none⟩=some P3∧W.cell? ⟨w.heap.size,4,none⟩=some P4∧W.cell? a=some (.slice y.A y.n y.c)∧W.cell? ⟨a.block,a.off+1,none⟩=some (.int .i64 y.s)∧W.cell? ⟨a.block,a.off+2,none⟩=some (.bool y.r.b)∧W.cell? ⟨a.block,a.off+3,none⟩=some (.slice y.r.A y.r.n y.r.c)∧W.cell? ⟨a.block,a.off+4,none⟩=some (.bool y.r.b')∧W.cell? ⟨a.block,a.off+5,none⟩=some (.slice y.r.A' y.r.n' y.r.c')∧W.cell? ⟨g,0,none⟩=some V0∧W.cell? ⟨g,1,none⟩=some V1∧W.cell? ⟨g,2,none⟩=some V2∧W.cell? ⟨g,3,none⟩=some V3:=by
 obtain⟨k0,k1,k2,k3,k4,_⟩:=hk.2.use5
 obtain⟨_,a0,a1,a2,a3,a4,a5⟩:=ha.below hk.1
 obtain⟨q0,q1,q2,q3,_⟩:=h8.use4
 exact⟨k0,k1,k2,k3,k4,a0,a1,a2,a3,a4,a5,q0,q1,q2,q3⟩
end
theorem scnt_le(p:LpX)(i:Nat):scnt p i≤i:=by rw [← slkL_len2];exact slkL_len p i
set_option maxRecDepth 100000 in
set_option maxHeartbeats 8000000 in
theorem slacks_ {w:World} {v vx:Value} {p:LpX} {nx:Nat} {x:Nat→Rat}(h:LpQ 1 w v p)(hx:RowQ false 1 w vx nx x)(hm:MayX p)(hn:nx=p.cost.n) :
 Calls Tryz.prog 27 #[v,vx] w fun e w' => ∃v,e = .returned v∧RowT true 75 w' v (colL p).length (fun k=>(yL p x)[k]?.getD 0)∧Below w.heap.size w w':=by
 have HNO:Hid (p.no=p.cost.n):=hm.1.2.2.1
 have HLO:Hid (p.lo.n=p.cost.n):=hm.1.2.2.2.1
 have HHI:Hid (p.hi.n=p.cost.n):=hm.1.2.2.2.2.1
 have hn24:p.cost.n≤24:=hm.1.2.1
 have hm24:p.m≤24:=hm.1.2.2.2.2.2
 have HRC:=Lib.hid (fun i (hi:i<p.m)=>(hm.2.2.1 i hi).1)
 have HSX:=Lib.hid (fun i (hi:i<p.m)=>(hm.2.2.1 i hi).2.1)
 subst hn
 clear hm
 obtain⟨Ac,cc,Ar,cr,Al,cl,Ah,ch,Ao,co,rfl,hqc,hqr,hql,hqh,hqo,g1,g2,g3,g4,g5⟩:=h.form
 clear h
 obtain⟨Ax,cx,rfl,_,gx⟩:=hx.len
 have BV:Hid (∀j,j<p.cost.n→BQ 75 (x j - p.lo.q j)):=fun j hj=>BQ.sub (hx.bq j0i3 hj) (hql.rowQ.bq j0i3 (by rw [HLO.out];exact hj)) j0i3
 have BE:Hid (∀j,j<p.cost.n→BQ 75 (p.hi.q j - x j)):=fun j hj=>BQ.sub (hqh.rowQ.bq j0i3 (by rw [HHI.out];exact hj)) (hx.bq j0i3 hj) j0i3
 have BD:Hid (∀i,i<p.m→∀q,q≤p.cost.n→BQ 73 (dotF (p.row i).coef.q x q)):=by
  intro i hi
  obtain⟨_,_,_,_,_,_,_,hRw⟩:=hqr.at_ hi
  have hc:=HRC.out i hi
  have:=row_dot hRw.2.2.1.rowQ hx j0i3 j0i3 j0i3 j0i3
  rw [hc] at this
  exact this
 have BS:Hid (∀i,i<p.m→BQ 75 ((p.row i).h - dX p x i)∧BQ 75 (dX p x i - (p.row i).h)):=fun i hi=>by
  obtain⟨_,_,_,_,_,_,_,hRw⟩:=hqr.at_ hi
  have h1:BQ 1 (p.row i).h:=LimQ.bq (show LimQ 1 w _ (p.row i).h from⟨_,_,hRw.2.2.2,rfl⟩) j0i3
  exact⟨BQ.sub h1 (BD.out i hi p.cost.n (Nat.le_refl _)) j0i3,BQ.sub (BD.out i hi p.cost.n (Nat.le_refl _)) h1 j0i3⟩
 have HRq:=Lib.hid hqr
 have HLq:=Lib.hid hql
 have HHq:=Lib.hid hqh
 have HOq:=Lib.hid hqo
 have HXq:=Lib.hid hx
 clear hqc hqr hql hqh hqo hx
 go_enter Tryz.func27,Tryz.ntmps27
 go_wp2
 generalize hW:w.alloc (.cells #[.slice Ac p.cost.n cc,.slice Ar p.m cr,.slice Al p.lo.n cl,.slice Ah p.hi.n ch,.slice Ao p.no co] 26)=w1
 have HK:Hid (SlkK w w1 #[.slice Ac p.cost.n cc,.slice Ar p.m cr,.slice Al p.lo.n cl,.slice Ah p.hi.n ch,.slice Ao p.no co]):=hW▸⟨below_new _ _,Blk.new _ _ rfl _ _⟩
 have HU:Hid (RowU (w.heap.size+1) w1 (.slice none 0 0) []):=RowU.nil
 clear hW
 go_loopw [5,6] (fun v5 v6 wr => ∃ (j:Nat),v6 = .int .i64 (j:Nat)∧j≤p.cost.n∧RowU (w.heap.size+1) wr v5 (yV p x j)∧SlkK w wr #[.slice Ac p.cost.n cc,.slice Ar p.m cr,.slice Al p.lo.n cl,.slice Ah p.hi.n ch,.slice Ao p.no co]) (fun _ v6 _=>p.cost.n - (intOf v6).toNat)
 case atStart=>exact⟨0,rfl,Nat.zero_le _,HU.out,HK.out⟩
 case round =>
  clear HU HK
  obtain⟨j,rfl,hj,hu,hk⟩:=hrel
  have HU:=Lib.hid hu
  have HK:=Lib.hid hk
  clear hu hk
  by_cases hlt:j<p.cost.n
  ·have hj0:(0:Int)≤(j:Int):=by omega
   have hjk:(j:Int)<(p.cost.n:Int) := j0i3
   obtain⟨xd,c1,⟨b7,A7,n7,c7,d7,B7,m7,k7⟩,e1,_,_,hatx,hEx⟩:=HXq.out.at_ hlt
   simp only [Value.slice.injEq] at e1
   obtain⟨rfl,_,rfl⟩:=e1
   have hEx:=hEx.2
   obtain⟨ld,c1,⟨b5,A5,n5,c5,d5,B5,m5,k5⟩,e1,_,_,hatl,hEl⟩:=HLq.out.at_ (show j<p.lo.n by rw [HLO.out];exact hlt)
   simp only [Value.slice.injEq] at e1
   obtain⟨rfl,_,rfl⟩:=e1
   have hjl:(j:Int)<(p.lo.n:Int) := j3af
   have HAX:=Lib.hid hatx
   have HAY:=Lib.hid hatl
   obtain⟨x0,x1,x2,x3,x4⟩:=hatx.below HK.out.1
   obtain⟨y0,y1,y2,y3,y4⟩:=hatl.below HK.out.1
   have HEX:=Lib.hid (hEx.below HK.out.1)
   have HEL:=Lib.hid (show LimQ 1 wr (.agg #[.bool b5,.slice A5 n5 c5,.bool d5,.slice B5 m5 k5]) (p.lo.q j) from⟨_,_,hEl.below HK.out.1,rfl⟩)
   clear hatx hatl hEx hEl
   obtain⟨t0,t1,t2,t3,t4,tl⟩:=HK.out.2.use5
   go_wp2
   refine wp_region_held_drew (S:=(fun w'=>w'.cell? ⟨w.heap.size,0,none⟩=some (.slice Ac p.cost.n cc)∧w'.cell? ⟨w.heap.size,1,none⟩=some (.slice Ar p.m cr)∧w'.cell? ⟨w.heap.size,2,none⟩=some (.slice (some ld) p.lo.n cl)∧w'.cell? ⟨w.heap.size,3,none⟩=some (.slice Ah p.hi.n ch)∧w'.cell? ⟨w.heap.size,4,none⟩=some (.slice Ao p.no co)∧w'.cell? (xd.add (j*4))=some (.bool b7)∧w'.cell? ⟨(xd.add (j*4)).block,(xd.add (j*4)).off+1,none⟩=some (.slice A7 n7 c7)∧w'.cell? ⟨(xd.add (j*4)).block,(xd.add (j*4)).off+2,none⟩=some (.bool d7)∧w'.cell? ⟨(xd.add (j*4)).block,(xd.add (j*4)).off+3,none⟩=some (.slice B7 m7 k7)∧w'.cell? (ld.add (j*4))=some (.bool b5)∧w'.cell? ⟨(ld.add (j*4)).block,(ld.add (j*4)).off+1,none⟩=some (.slice A5 n5 c5)∧w'.cell? ⟨(ld.add (j*4)).block,(ld.add (j*4)).off+2,none⟩=some (.bool d5)∧w'.cell? ⟨(ld.add (j*4)).block,(ld.add (j*4)).off+3,none⟩=some (.slice B5 m5 k5))) jo0f jgqb (fun hHeld=>?_)
   refine jtk 0 ?_
   refine jtk 1 ?_
   refine jtk 2 ?_
   refine jtk 3 ?_
   refine jtk 4 ?_
   refine jtk 5 ?_
   refine jtk 6 ?_
   refine jtk 7 ?_
   refine jtk 8 ?_
   refine jtk 9 ?_
   refine jrd 10 fun Kz hKz=>?_
   go_simp
   refine Calls.mono (rsub_q HEX.out.drew_ HEL.out.drew_ j0i3 j0i3 j0i3 j0i3) ?_;rintro e w4 ⟨v,rfl,h,hb⟩;obtain⟨b4,A4,n4,c4,d4,B4,m4,q4,rfl,-,-,-,-,-⟩:=id h.form;have hBw:=(show Below wr.heap.size wr w4 from jc22);have HK:=Lib.hid (HK.out.below hBw);have HU:=Lib.hid (HU.out.below hBw);have HE:=Lib.hid (EQ.of (p:=true) h (BV.out j hlt));clear hb hBw h
   refine hKz.out _ _ j97i (fun hHeld=>?_)
   clear hKz Kz
   refine jsp ?_
   refine jrd 11 fun Kz hKz=>?_
   go_simp
   refine hKz.out _ _ j97i (fun hHeld=>?_)
   clear hKz Kz
   refine jsp ?_
   refine jrd 12 fun Kz hKz=>?_
   refine step_app_u rfl rfl (.tmp 17) (.tmp 28) rfl rfl HU.out rfl rfl HE.out (by rw [yV_len];omega) HK.out.2.lt ?_;intro v5' w5' hu hb5 hne;have HK:=Lib.hid (HK.out.low hb5);have HU:=Lib.hid hu;clear hu hb5 hne
   refine hKz.out _ _ j97i (fun hHeld=>?_)
   clear hKz Kz
   refine jsp ?_
   refine jtk 13 ?_
   refine wpAnyH_done jo0f ?_ _
   go_wp2
   go_roundw
   case rel=>exact⟨j+1,by go_num,by omega,HU.out,HK.out⟩
   case measure=>simp [intOf];omega
  ·obtain rfl:j=p.cost.n:=by omega
   go_wp2
   go_loopw [5,7] (fun v5 v7 wr => ∃ (i:Nat),v7 = .int .i64 (i:Nat)∧i≤p.m∧RowU (w.heap.size+1) wr v5 (yV p x p.no ++ yS p x i)∧SlkK w wr #[.slice Ac p.cost.n cc,.slice Ar p.m cr,.slice Al p.lo.n cl,.slice Ah p.hi.n ch,.slice Ao p.no co]) (fun _ v7 _=>p.m - (intOf v7).toNat)
   case atStart=>exact⟨0,rfl,Nat.zero_le _,by rw [yS,List.append_nil,HNO.out];exact HU.out,HK.out⟩
   case round =>
    clear HU HK
    obtain⟨i,rfl,hj,hu,hk⟩:=hrel
    have HU:=Lib.hid hu
    have HK:=Lib.hid hk
    clear hu hk
    by_cases hlt:i<p.m
    ·have hj0:(0:Int)≤(i:Int):=by omega
     have hjk:(i:Int)<(p.m:Int) := j0i3
     obtain⟨rd,c1,⟨A0,n0,c0,s,⟨b9,A9,n9,c9,d9,B9,m9,k9⟩⟩,e1,_,_,hat,hRw⟩:=HRq.out.at_ hlt
     simp only [Value.slice.injEq] at e1
     obtain⟨rfl,_,rfl⟩:=e1
     have HA6:=Lib.hid hat
     obtain⟨z0,z1,z2,z3,z4,z5,z6⟩:=hat.below HK.out.1
     have HC:Hid (RowQ false 1 w (.slice A0 n0 c0) p.cost.n (p.row i).coef.q):=by
      have:=hRw.2.2.1.rowQ
      rw [HRC.out i hlt] at this
      exact this
     have HRh:=Lib.hid (show LimQ 1 w (.agg #[.bool b9,.slice A9 n9 c9,.bool d9,.slice B9 m9 k9]) (p.row i).h from⟨_,_,hRw.2.2.2,rfl⟩)
     have hs:s=(p.row i).s:=hRw.1
     clear hat hRw
     obtain⟨t0,t1,t2,t3,t4,tl⟩:=HK.out.2.use5
     go_wp2_with fail
     refine Calls.mono (rdot (K:=73) (HC.out.below HK.out.1) (HXq.out.below HK.out.1) j0i3 j0i3 j0i3 j0i3 (BD.out i hlt) j0i3 j0i3) ?_
     rintro e w2 ⟨v,rfl,h,hb⟩
     obtain⟨b2,A2,n2,c2,d2,B2,m2,k2,rfl,-,-,-,-,-⟩:=id h.form
     have HOB:=Lib.hid (fun g (e:u5.ownBlock=some g)=>Nat.lt_of_lt_of_le (HU.out.inside e) hb.size)
     have HK:=Lib.hid (HK.out.below hb)
     have HU:=Lib.hid (HU.out.below hb)
     have HD:=Lib.hid (h.limQ (BD.out i hlt p.cost.n (Nat.le_refl _)))
     clear hb h z0 z1 z2 z3 z4 z5 z6 t0 t1 t2 t3 t4 tl
     obtain⟨z0,z1,z2,z3,z4,z5,z6⟩:=HA6.out.below HK.out.1
     obtain⟨t0,t1,t2,t3,t4,tl⟩:=HK.out.2.use5
     go_upto_region 10 with fail
     generalize hW:w2.alloc (.cells #[.bool b2,.slice A2 n2 c2,.bool d2,.slice B2 m2 k2] 36)=w3
     have H8:=Lib.hid (show Blk w3 w2.heap.size 36 #[.bool b2,.slice A2 n2 c2,.bool d2,.slice B2 m2 k2] from hW▸Blk.new _ _ rfl _ _)
     have HK:=Lib.hid (show SlkK w w3 _ from hW▸HK.out.alloc_ _)
     have HU:=Lib.hid (show RowU _ w3 _ _ from hW▸HU.out.below (below_new _ _))
     have HD:=Lib.hid (show LimQ 73 w3 _ _ from hW▸HD.out.alloc_ _)
     clear hW z0 z1 z2 z3 z4 z5 z6 t0 t1 t2 t3 t4 tl
     obtain⟨z0,z1,z2,z3,z4,z5,z6⟩:=HA6.out.below HK.out.1
     obtain⟨t0,t1,t2,t3,t4,tl⟩:=HK.out.2.use5
     have HS:=Lib.hid hs
     rcases HSX.out i hlt with h0 | h0 | h0
     ·obtain rfl:s=0:=by rw [HS.out,h0]
      have HSS:Hid ((if (p.row i).s=1 then [] else if (p.row i).s=2 then [dX p x i - (p.row i).h] else [(p.row i).h - dX p x i]) = [(p.row i).h - dX p x i]) := j1ot
      clear hs h0
      go_wp2
      refine wp_region_held_drew (S:=(fun w'=>w'.cell? ⟨w.heap.size,0,none⟩=some (.slice Ac p.cost.n cc)∧w'.cell? ⟨w.heap.size,1,none⟩=some (.slice (some rd) p.m cr)∧w'.cell? ⟨w.heap.size,2,none⟩=some (.slice Al p.lo.n cl)∧w'.cell? ⟨w.heap.size,3,none⟩=some (.slice Ah p.hi.n ch)∧w'.cell? ⟨w.heap.size,4,none⟩=some (.slice Ao p.no co)∧w'.cell? (rd.add (i*6))=some (.slice A0 n0 c0)∧w'.cell? ⟨(rd.add (i*6)).block,(rd.add (i*6)).off+1,none⟩=some (.int .i64 0)∧w'.cell? ⟨(rd.add (i*6)).block,(rd.add (i*6)).off+2,none⟩=some (.bool b9)∧w'.cell? ⟨(rd.add (i*6)).block,(rd.add (i*6)).off+3,none⟩=some (.slice A9 n9 c9)∧w'.cell? ⟨(rd.add (i*6)).block,(rd.add (i*6)).off+4,none⟩=some (.bool d9)∧w'.cell? ⟨(rd.add (i*6)).block,(rd.add (i*6)).off+5,none⟩=some (.slice B9 m9 k9)∧w'.cell? ⟨w2.heap.size,0,none⟩=some (.bool b2)∧w'.cell? ⟨w2.heap.size,1,none⟩=some (.slice A2 n2 c2)∧w'.cell? ⟨w2.heap.size,2,none⟩=some (.bool d2)∧w'.cell? ⟨w2.heap.size,3,none⟩=some (.slice B2 m2 k2))) jo0f je35 (fun hHeld=>?_)
      refine jtk 0 ?_
      refine jtk 1 ?_
      refine jtk 2 ?_
      refine jtk 3 ?_
      refine jtk 4 ?_
      refine jtk 5 ?_
      refine jtk 6 ?_
      refine jtk 7 ?_
      refine jrd 8 fun Kz hKz=>?_
      go_simp
      refine Calls.mono (rsub_q (HRh.out.below HK.out.1).drew_ HD.out.drew_ j0i3 j0i3 j0i3 j0i3) ?_;rintro e w6 ⟨v,rfl,h,hb⟩;obtain⟨b4,A4,n4,c4,d4,B4,m4,q4,rfl,-,-,-,-,-⟩:=id h.form;have hBw:=(show Below w3.heap.size w3 w6 from jc22);have HK:=Lib.hid (HK.out.below hBw);have HU:=Lib.hid (HU.out.below hBw);have HE:=Lib.hid (EQ.of (p:=true) h (BS.out i hlt).1);have H8:=Lib.hid (H8.out.below hBw);clear hb hBw h
      refine hKz.out _ _ jp1m (fun hHeld=>?_)
      clear hKz Kz
      refine jsp ?_
      refine jrd 9 fun Kz hKz=>?_
      go_simp
      refine hKz.out _ _ jp1m (fun hHeld=>?_)
      clear hKz Kz
      refine jsp ?_
      refine jrd 10 fun Kz hKz=>?_
      refine step_app_u rfl rfl (.tmp 55) (.tmp 64) rfl rfl HU.out rfl rfl HE.out jjqn HK.out.2.lt ?_;intro v5' w5' hu hb5 hne;have HK:=Lib.hid (HK.out.low hb5);have HU:=Lib.hid hu;have H8:=Lib.hid (hne _ _ _ H8.out (fun e=>by have:=HOB.out _ e;omega));clear hu hb5 hne
      refine hKz.out _ _ jp1m (fun hHeld=>?_)
      clear hKz Kz
      refine jsp ?_
      refine jtk 11 ?_
      refine wpAnyH_done jo0f ?_ _
      clear z0 z1 z2 z3 z4 z5 z6 t0 t1 t2 t3 t4 tl
      obtain⟨z0,z1,z2,z3,z4,z5,z6⟩:=HA6.out.below HK.out.1
      obtain⟨t0,t1,t2,t3,t4,tl⟩:=HK.out.2.use5
      go_wp2
      go_roundw
      case rel=>exact⟨i+1,by go_num,by omega,by rw [yS,HSS.out,← List.append_assoc];exact HU.out,HK.out⟩
      case measure=>simp [intOf];omega
     ·obtain rfl:s=1:=by rw [HS.out,h0]
      have HSS:Hid ((if (p.row i).s=1 then [] else if (p.row i).s=2 then [dX p x i - (p.row i).h] else [(p.row i).h - dX p x i]) = []) := j1ot
      clear hs h0
      go_wp2
      go_roundw
      case rel=>exact⟨i+1,by go_num,by omega,by rw [yS,HSS.out,List.append_nil];exact HU.out,HK.out⟩
      case measure=>simp [intOf];omega
     ·obtain rfl:s=2:=by rw [HS.out,h0]
      have HSS:Hid ((if (p.row i).s=1 then [] else if (p.row i).s=2 then [dX p x i - (p.row i).h] else [(p.row i).h - dX p x i]) = [dX p x i - (p.row i).h]) := j1ot
      clear hs h0
      go_wp2
      refine wp_region_held_drew (S:=(fun w'=>w'.cell? ⟨w.heap.size,0,none⟩=some (.slice Ac p.cost.n cc)∧w'.cell? ⟨w.heap.size,1,none⟩=some (.slice (some rd) p.m cr)∧w'.cell? ⟨w.heap.size,2,none⟩=some (.slice Al p.lo.n cl)∧w'.cell? ⟨w.heap.size,3,none⟩=some (.slice Ah p.hi.n ch)∧w'.cell? ⟨w.heap.size,4,none⟩=some (.slice Ao p.no co)∧w'.cell? (rd.add (i*6))=some (.slice A0 n0 c0)∧w'.cell? ⟨(rd.add (i*6)).block,(rd.add (i*6)).off+1,none⟩=some (.int .i64 2)∧w'.cell? ⟨(rd.add (i*6)).block,(rd.add (i*6)).off+2,none⟩=some (.bool b9)∧w'.cell? ⟨(rd.add (i*6)).block,(rd.add (i*6)).off+3,none⟩=some (.slice A9 n9 c9)∧w'.cell? ⟨(rd.add (i*6)).block,(rd.add (i*6)).off+4,none⟩=some (.bool d9)∧w'.cell? ⟨(rd.add (i*6)).block,(rd.add (i*6)).off+5,none⟩=some (.slice B9 m9 k9)∧w'.cell? ⟨w2.heap.size,0,none⟩=some (.bool b2)∧w'.cell? ⟨w2.heap.size,1,none⟩=some (.slice A2 n2 c2)∧w'.cell? ⟨w2.heap.size,2,none⟩=some (.bool d2)∧w'.cell? ⟨w2.heap.size,3,none⟩=some (.slice B2 m2 k2))) jo0f je35 (fun hHeld=>?_)
      refine jtk 0 ?_
      refine jtk 1 ?_
      refine jtk 2 ?_
      refine jtk 3 ?_
      refine jtk 4 ?_
      refine jtk 5 ?_
      refine jtk 6 ?_
      refine jtk 7 ?_
      refine jrd 8 fun Kz hKz=>?_
      go_simp
      refine Calls.mono (rsub_q HD.out.drew_ (HRh.out.below HK.out.1).drew_ j0i3 j0i3 j0i3 j0i3) ?_;rintro e w6 ⟨v,rfl,h,hb⟩;obtain⟨b4,A4,n4,c4,d4,B4,m4,q4,rfl,-,-,-,-,-⟩:=id h.form;have hBw:=(show Below w3.heap.size w3 w6 from jc22);have HK:=Lib.hid (HK.out.below hBw);have HU:=Lib.hid (HU.out.below hBw);have HE:=Lib.hid (EQ.of (p:=true) h (BS.out i hlt).2);have H8:=Lib.hid (H8.out.below hBw);clear hb hBw h
      refine hKz.out _ _ jp1m (fun hHeld=>?_)
      clear hKz Kz
      refine jsp ?_
      refine jrd 9 fun Kz hKz=>?_
      go_simp
      refine hKz.out _ _ jp1m (fun hHeld=>?_)
      clear hKz Kz
      refine jsp ?_
      refine jrd 10 fun Kz hKz=>?_
      refine step_app_u rfl rfl (.tmp 73) (.tmp 82) rfl rfl HU.out rfl rfl HE.out jjqn HK.out.2.lt ?_;intro v5' w5' hu hb5 hne;have HK:=Lib.hid (HK.out.low hb5);have HU:=Lib.hid hu;have H8:=Lib.hid (hne _ _ _ H8.out (fun e=>by have:=HOB.out _ e;omega));clear hu hb5 hne
      refine hKz.out _ _ jp1m (fun hHeld=>?_)
      clear hKz Kz
      refine jsp ?_
      refine jtk 11 ?_
      refine wpAnyH_done jo0f ?_ _
      go_wp2
      go_roundw
      case rel=>exact⟨i+1,by go_num,by omega,by rw [yS,HSS.out,← List.append_assoc];exact HU.out,HK.out⟩
      case measure=>simp [intOf];omega
    ·obtain rfl:i=p.m:=by omega
     obtain⟨t0,t1,t2,t3,t4,tl⟩:=HK.out.2.use5
     go_wp2
     clear t0 t1 t2 t3 t4 tl
     go_loopw [5,10] (fun v5 v10 wr => ∃ (j:Nat),v10 = .int .i64 (j:Nat)∧j≤p.cost.n∧RowU (w.heap.size+1) wr v5 (yV p x p.no ++ yS p x p.m ++ yE p x j)∧SlkK w wr #[.slice Ac p.cost.n cc,.slice Ar p.m cr,.slice Al p.lo.n cl,.slice Ah p.hi.n ch,.slice Ao p.no co]) (fun _ v10 _=>p.cost.n - (intOf v10).toNat)
     case atStart=>exact⟨0,rfl,Nat.zero_le _,by rw [yE,List.append_nil];exact HU.out,HK.out⟩
     case round =>
      clear HU HK
      obtain⟨j,rfl,hj,hu,hk⟩:=hrel
      have HU:=Lib.hid hu
      have HK:=Lib.hid hk
      clear hu hk
      by_cases hlt:j<p.cost.n
      ·have hj0:(0:Int)≤(j:Int):=by omega
       have hjk:(j:Int)<(p.cost.n:Int) := j0i3
       obtain⟨xd,c1,⟨b7,A7,n7,c7,d7,B7,m7,k7⟩,e1,_,_,hatx,hEx⟩:=HXq.out.at_ hlt
       simp only [Value.slice.injEq] at e1
       obtain⟨rfl,_,rfl⟩:=e1
       have hEx:=hEx.2
       obtain⟨hd,c1,⟨b6,A6,n6,c6,d6,B6,m6,k6⟩,e1,_,_,hath,hEh⟩:=HHq.out.at_ (show j<p.hi.n by rw [HHI.out];exact hlt)
       simp only [Value.slice.injEq] at e1
       obtain⟨rfl,_,rfl⟩:=e1
       obtain⟨od,c0,e1,_,_,hob,hoc⟩:=(HOq.out.below HK.out.1).at_ (show j<p.no by rw [HNO.out];exact hlt)
       simp only [Value.slice.injEq] at e1
       obtain⟨rfl,_,rfl⟩:=e1
       have hjh:(j:Int)<(p.hi.n:Int) := jrze
       have hjo:(j:Int)<(p.no:Int):=by rw [HNO.out];exact hjk
       have HAY:=Lib.hid hatx
       have HAX:=Lib.hid hath
       obtain⟨x0,x1,x2,x3,x4⟩:=hatx.below HK.out.1
       obtain⟨y0,y1,y2,y3,y4⟩:=hath.below HK.out.1
       have HEX:=Lib.hid (hEx.below HK.out.1)
       have HEH:=Lib.hid (show LimQ 1 wr (.agg #[.bool b6,.slice A6 n6 c6,.bool d6,.slice B6 m6 k6]) (p.hi.q j) from⟨_,_,hEh.below HK.out.1,rfl⟩)
       clear hatx hath hEx hEh
       obtain⟨t0,t1,t2,t3,t4,tl⟩:=HK.out.2.use5
       cases hop:p.op j
       ·rw [hop] at hoc
        have HOP:=Lib.hid hop
        clear hop
        go_wp2
        refine wp_region_held_drew (S:=(fun w'=>w'.cell? ⟨w.heap.size,0,none⟩=some (.slice Ac p.cost.n cc)∧w'.cell? ⟨w.heap.size,1,none⟩=some (.slice Ar p.m cr)∧w'.cell? ⟨w.heap.size,2,none⟩=some (.slice Al p.lo.n cl)∧w'.cell? ⟨w.heap.size,3,none⟩=some (.slice (some hd) p.hi.n ch)∧w'.cell? ⟨w.heap.size,4,none⟩=some (.slice (some od) p.no co)∧w'.cell? (hd.add (j*4))=some (.bool b6)∧w'.cell? ⟨(hd.add (j*4)).block,(hd.add (j*4)).off+1,none⟩=some (.slice A6 n6 c6)∧w'.cell? ⟨(hd.add (j*4)).block,(hd.add (j*4)).off+2,none⟩=some (.bool d6)∧w'.cell? ⟨(hd.add (j*4)).block,(hd.add (j*4)).off+3,none⟩=some (.slice B6 m6 k6)∧w'.cell? (xd.add (j*4))=some (.bool b7)∧w'.cell? ⟨(xd.add (j*4)).block,(xd.add (j*4)).off+1,none⟩=some (.slice A7 n7 c7)∧w'.cell? ⟨(xd.add (j*4)).block,(xd.add (j*4)).off+2,none⟩=some (.bool d7)∧w'.cell? ⟨(xd.add (j*4)).block,(xd.add (j*4)).off+3,none⟩=some (.slice B7 m7 k7))) jo0f jgqb (fun hHeld=>?_)
        refine jtk 0 ?_
        refine jtk 1 ?_
        refine jtk 2 ?_
        refine jtk 3 ?_
        refine jtk 4 ?_
        refine jtk 5 ?_
        refine jtk 6 ?_
        refine jtk 7 ?_
        refine jtk 8 ?_
        refine jtk 9 ?_
        refine jrd 10 fun Kz hKz=>?_
        go_simp
        refine Calls.mono (rsub_q HEH.out.drew_ HEX.out.drew_ j0i3 j0i3 j0i3 j0i3) ?_;rintro e w4 ⟨v,rfl,h,hb⟩;obtain⟨b4,A4,n4,c4,d4,B4,m4,q4,rfl,-,-,-,-,-⟩:=id h.form;have hBw:=(show Below wr.heap.size wr w4 from jc22);have HK:=Lib.hid (HK.out.below hBw);have HU:=Lib.hid (HU.out.below hBw);have HE:=Lib.hid (EQ.of (p:=true) h (BE.out j hlt));clear hb hBw h
        refine hKz.out _ _ j97i (fun hHeld=>?_)
        clear hKz Kz
        refine jsp ?_
        refine jrd 11 fun Kz hKz=>?_
        go_simp
        refine hKz.out _ _ j97i (fun hHeld=>?_)
        clear hKz Kz
        refine jsp ?_
        refine jrd 12 fun Kz hKz=>?_
        refine step_app_u rfl rfl (.tmp 96) (.tmp 107) rfl rfl HU.out rfl rfl HE.out (by have:=scnt_le p p.m;have:=cntF_le p.op j;rw [List.length_append,List.length_append,yV_len,yS_len,yE_len,HNO.out];omega) HK.out.2.lt ?_;intro v5' w5' hu hb5 hne;have HK:=Lib.hid (HK.out.low hb5);have HU:=Lib.hid hu;clear hu hb5 hne
        refine hKz.out _ _ j97i (fun hHeld=>?_)
        clear hKz Kz
        refine jsp ?_
        refine jtk 13 ?_
        refine wpAnyH_done jo0f ?_ _
        go_wp2
        go_roundw
        case rel=>exact⟨j+1,by go_num,by omega,by rw [yE,HOP.out,← List.append_assoc];exact HU.out,HK.out⟩
        case measure=>simp [intOf];omega
       ·rw [hop] at hoc
        have HOP:=Lib.hid hop
        clear hop
        go_wp2
        go_roundw
        case rel=>exact⟨j+1,by go_num,by omega,by rw [yE,HOP.out,if_pos rfl,List.append_nil];exact HU.out,HK.out⟩
        case measure=>simp [intOf];omega
      ·obtain rfl:j=p.cost.n:=by omega
       go_wp2
       go_ret
       have hlen:(yL p x).length≤1000000:=by have:=scnt_le p p.m;have:=cntF_le p.op p.no;rw [yL,List.length_append,List.length_append,yV_len,yS_len,yE_len,HNO.out];rw [HNO.out] at this;omega
       have hT:RowT true 75 _ _ (yL p x).length (fun k=>(yL p x)[k]?.getD 0):=RowU.rowT (by have hu:=HU.out;rw [HNO.out] at hu;rw [yL,HNO.out];exact hu) hlen
       rw [yL_len] at hT
       exact⟨_,rfl,hT,HK.out.1⟩
end Go.Proofs.YtgilnmhejjpleaaGreat
namespace Go.Proofs.YtgilnmhejjpleaaGreat
open Go.RowKit
attribute [local go_sem ↓] Go.wp_at_zero Go.wp_at_succ
set_option linter.unusedVariables false
set_option linter.unusedSimpArgs false
theorem LpQ.rows {k:Nat} {w:World} {a b c d e:Value} {p:LpX}(h:LpQ k w (.agg #[a,b,c,d,e]) p):RowN k w a p.cost∧RwsN k w b p.m p.row∧RowN k w c p.lo∧RowN k w d p.hi∧BoolsN w e p.no p.op:=by
 obtain⟨vc,vr,vl,vh,vo,he,h⟩:=h
 obtain⟨rfl,rfl,rfl,rfl,rfl⟩:a=vc∧b=vr∧c=vl∧d=vh∧e=vo:=by simpa using he
 exact h
end Go.Proofs.YtgilnmhejjpleaaGreat
