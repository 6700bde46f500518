/- Contracts of prob: areBounds, May. -/
import Derived.Test.YtgilnmhejjpleaaGreatPMin
import Derived.Test.YtgilnmhejjpleaaGreatPFc
namespace Go.Proofs.YtgilnmhejjpleaaGreat
open Go.RowKit
attribute [local go_sem ↓] Go.wp_at_zero Go.wp_at_succ
set_option linter.unusedVariables false
set_option linter.unusedSimpArgs false
theorem j3af {P:Prop}(h:P:=by rw [HLO.out]; exact hjk):P:=h
theorem jq0d {P:Prop}(h:P:=by (try dsimp only); (first | (and_intros <;> (first | with_reducible assumption | ((with_reducible refine Eq.trans (cell_drew _ _) ?_); with_reducible assumption) | go_keep)) | go_keep)):P:=h
theorem jrot {P:Prop}(h:P:=by rw [h2]; exact Rat.le_refl):P:=h
theorem jrze {P:Prop}(h:P:=by rw [HHI.out]; exact hjk):P:=h
def YesPost(w w':World)(e:Ending)(P:Prop):Prop:=(∃b,e = .returned (.bool b)∧(b=true↔P))∧Below w.heap.size w w'
set_option maxRecDepth 100000 in
set_option maxHeartbeats 4000000 in
theorem pbounds {k:Nat} {w:World} {v:Value} {p:LpX}(h:LpQ k w v p)(hlo:p.lo.n=p.no)(hhi:p.hi.n=p.no)(hk:k≤20000)(h1:1≤k) :
 Calls Tryz.prog 51 #[v] w fun e w'=>YesPost w w' e (∀j,j<p.no→p.op j=false→p.lo.q j≤p.hi.q j):=by
 obtain⟨Ac,cc,Ar,cr,Al,cl,Ah,ch,Ao,co,rfl,hqc,hqr,hql,hqh,hqo,g1,g2,g3,g4,g5⟩:=h.form
 clear h
 have HLq:=Lib.hid hql
 have HHq:=Lib.hid hqh
 have HOq:=Lib.hid hqo
 have HLO:=Lib.hid hlo
 have HHI:=Lib.hid hhi
 clear hqc hqr hql hqh hqo hlo hhi
 go_enter Tryz.func51,Tryz.ntmps51
 go_wp2
 generalize hW:w.alloc (.cells #[.slice Ac p.cost.n cc,.slice Ar p.m cr,.slice Al p.lo.n cl,.slice Ah p.hi.n ch,.slice Ao p.no co] 26)=w1
 have KP:=Lib.hid (show Blk w1 w.heap.size 26 #[.slice Ac p.cost.n cc,.slice Ar p.m cr,.slice Al p.lo.n cl,.slice Ah p.hi.n ch,.slice Ao p.no co] from hW▸Blk.new _ _ rfl _ _)
 have HB:=Lib.hid (show Below w.heap.size w w1 from hW▸below_new _ _)
 clear hW
 obtain⟨k0,k1,k2,k3,k4,kl⟩:=KP.out.use5
 go_wp2
 go_loopw [8] (fun v8 wr => ∃ (j:Nat),v8 = .int .i64 (j:Nat)∧j≤p.no∧Below w1.heap.size w1 wr∧∀q,q<j→p.op q=false→p.lo.q q≤p.hi.q q) (fun v8 _=>p.no - (intOf v8).toNat)
 case atStart=>exact⟨0,rfl,Nat.zero_le _,Below.refl _ _,fun q hq=>absurd hq j0i3⟩
 case round =>
  clear k0 k1 k2 k3 k4 kl
  obtain⟨j,rfl,hj,hbw,hinv⟩:=hrel
  have HB1:=Lib.hid hbw
  have HI:=Lib.hid hinv
  clear hinv hbw
  have HBw:=Lib.hid (below_trans HB.out HB1.out)
  have KP1:=Lib.hid (KP.out.below HB1.out)
  obtain⟨k0,k1,k2,k3,k4,kl⟩:=KP1.out.use5
  by_cases hlt:j<p.no
  ·have hj0:(0:Int)≤(j:Int):=by omega
   have hjk:(j:Int)<(p.no:Int) := j0i3
   obtain⟨od,c0,e1,_,_,hob,hoc⟩:=(HOq.out.below HBw.out).at_ hlt
   simp only [Value.slice.injEq] at e1
   obtain⟨rfl,_,rfl⟩:=e1
   obtain⟨ld,c1,⟨b5,A5,n5,c5,d5,B5,m5,k5⟩,e1,_,_,hatl,hEl⟩:=(HLq.out.below HBw.out).at_ (show j<p.lo.n by rw [HLO.out];exact hlt)
   simp only [Value.slice.injEq] at e1
   obtain⟨rfl,_,rfl⟩:=e1
   obtain⟨hd,c2,⟨b6,A6,n6,c6,d6,B6,m6,k6⟩,e1,_,_,hath,hEh⟩:=(HHq.out.below HBw.out).at_ (show j<p.hi.n by rw [HHI.out];exact hlt)
   simp only [Value.slice.injEq] at e1
   obtain⟨rfl,_,rfl⟩:=e1
   have hjl:(j:Int)<(p.lo.n:Int) := j3af
   have hjh:(j:Int)<(p.hi.n:Int) := jrze
   have HAL:=Lib.hid hatl
   have HAH:=Lib.hid hath
   obtain⟨x0,x1,x2,x3,x4⟩:=hatl
   obtain⟨y0,y1,y2,y3,y4⟩:=hath
   have HEL:=Lib.hid (show LimQ k wr (.agg #[.bool b5,.slice A5 n5 c5,.bool d5,.slice B5 m5 k5]) (p.lo.q j) from⟨_,_,hEl,rfl⟩)
   have HEH:=Lib.hid (show LimQ k wr (.agg #[.bool b6,.slice A6 n6 c6,.bool d6,.slice B6 m6 k6]) (p.hi.q j) from⟨_,_,hEh,rfl⟩)
   clear hEl hEh
   cases hop:p.op j
   ·rw [hop] at hoc
    have HOP:=Lib.hid hop
    clear hop
    rcases cmpQ_cases (p.hi.q j) (p.lo.q j) with ⟨h2,h3⟩ | ⟨h2,h3⟩ | ⟨h2,h3⟩
    ·have H3:=Lib.hid h3
     have HQ:=Lib.hid h2
     clear h2 h3
     go_wp2
     refine wp_region_held_drew (S:=(fun w'=>w'.cell? ⟨w.heap.size,2,none⟩=some (.slice (some ld) p.lo.n cl)∧w'.cell? ⟨w.heap.size,3,none⟩=some (.slice (some hd) p.hi.n ch)∧w'.cell? (ld.add (j*4))=some (.bool b5)∧w'.cell? ⟨(ld.add (j*4)).block,(ld.add (j*4)).off+1,none⟩=some (.slice A5 n5 c5)∧w'.cell? ⟨(ld.add (j*4)).block,(ld.add (j*4)).off+2,none⟩=some (.bool d5)∧w'.cell? ⟨(ld.add (j*4)).block,(ld.add (j*4)).off+3,none⟩=some (.slice B5 m5 k5)∧w'.cell? (hd.add (j*4))=some (.bool b6)∧w'.cell? ⟨(hd.add (j*4)).block,(hd.add (j*4)).off+1,none⟩=some (.slice A6 n6 c6)∧w'.cell? ⟨(hd.add (j*4)).block,(hd.add (j*4)).off+2,none⟩=some (.bool d6)∧w'.cell? ⟨(hd.add (j*4)).block,(hd.add (j*4)).off+3,none⟩=some (.slice B6 m6 k6))) jo0f ?_ (fun hHeld=>?_)
     ·(first | (refine⟨?_,?_,?_,?_,?_,?_,?_,?_,?_,?_⟩ <;> (first | with_reducible assumption | ((with_reducible refine Eq.trans (cell_drew _ _) ?_);with_reducible assumption) | go_keep)) | go_keep)
     refine jtk 0 ?_
     refine jtk 1 ?_
     refine jtk 2 ?_
     refine jtk 3 ?_
     refine jtk 4 ?_
     refine jtk 5 ?_
     refine jtk 6 ?_
     refine jtk 7 ?_
     refine jtk 8 ?_
     refine jtk 9 ?_
     refine jtk 10 ?_
     refine jtk 11 ?_
     refine jtk 12 ?_
     refine jrd 13 fun Kz hKz=>?_
     go_simp
     ((with_reducible refine Calls.mono (qcmp_is (-1) H3.out HEH.out.drew_ HEL.out.drew_ j0i3 j0i3 h1 h1) ?_));rintro e w3 ⟨rfl,hb⟩;have hBw:=(show Below wr.heap.size wr w3 from jc22);have HB3:=Lib.hid (below_trans HBw.out hBw);have HB13:=Lib.hid (below_trans HB1.out hBw);have KP3:=Lib.hid (KP1.out.below hBw);obtain⟨q0,q1,q2,q3,q4,ql⟩:=KP3.out.use5;obtain⟨z0,z1,z2,z3,z4⟩:=HAL.out.below hBw;obtain⟨u0,u1,u2,u3,u4⟩:=HAH.out.below hBw;clear hb hBw HEL HEH KP1 HB1 HBw k0 k1 k2 k3 k4 kl x0 x1 x2 x3 x4 y0 y1 y2 y3 y4
     refine hKz.out _ _ jq0d (fun hHeld=>?_)
     clear hKz Kz
     refine jsp ?_
     refine jtk 14 ?_
     refine jtk 15 ?_
     refine wpAnyH_done jo0f ?_ _
     go_wp2
     go_ret
     exact⟨⟨_,rfl,fun h => j40t,fun h=>absurd (h j hlt HOP.out) (Rat.not_le.2 HQ.out)⟩,HB3.out⟩
    ·have H3:=Lib.hid h3
     have HQ:=Lib.hid (show p.lo.q j≤p.hi.q j from jrot)
     clear h2 h3
     go_wp2
     refine wp_region_held_drew (S:=(fun w'=>w'.cell? ⟨w.heap.size,2,none⟩=some (.slice (some ld) p.lo.n cl)∧w'.cell? ⟨w.heap.size,3,none⟩=some (.slice (some hd) p.hi.n ch)∧w'.cell? (ld.add (j*4))=some (.bool b5)∧w'.cell? ⟨(ld.add (j*4)).block,(ld.add (j*4)).off+1,none⟩=some (.slice A5 n5 c5)∧w'.cell? ⟨(ld.add (j*4)).block,(ld.add (j*4)).off+2,none⟩=some (.bool d5)∧w'.cell? ⟨(ld.add (j*4)).block,(ld.add (j*4)).off+3,none⟩=some (.slice B5 m5 k5)∧w'.cell? (hd.add (j*4))=some (.bool b6)∧w'.cell? ⟨(hd.add (j*4)).block,(hd.add (j*4)).off+1,none⟩=some (.slice A6 n6 c6)∧w'.cell? ⟨(hd.add (j*4)).block,(hd.add (j*4)).off+2,none⟩=some (.bool d6)∧w'.cell? ⟨(hd.add (j*4)).block,(hd.add (j*4)).off+3,none⟩=some (.slice B6 m6 k6))) jo0f ?_ (fun hHeld=>?_)
     ·(first | (refine⟨?_,?_,?_,?_,?_,?_,?_,?_,?_,?_⟩ <;> (first | with_reducible assumption | ((with_reducible refine Eq.trans (cell_drew _ _) ?_);with_reducible assumption) | go_keep)) | go_keep)
     refine jtk 0 ?_
     refine jtk 1 ?_
     refine jtk 2 ?_
     refine jtk 3 ?_
     refine jtk 4 ?_
     refine jtk 5 ?_
     refine jtk 6 ?_
     refine jtk 7 ?_
     refine jtk 8 ?_
     refine jtk 9 ?_
     refine jtk 10 ?_
     refine jtk 11 ?_
     refine jtk 12 ?_
     refine jrd 13 fun Kz hKz=>?_
     go_simp
     ((with_reducible refine Calls.mono (qcmp_is 0 H3.out HEH.out.drew_ HEL.out.drew_ j0i3 j0i3 h1 h1) ?_));rintro e w3 ⟨rfl,hb⟩;have hBw:=(show Below wr.heap.size wr w3 from jc22);have HB3:=Lib.hid (below_trans HBw.out hBw);have HB13:=Lib.hid (below_trans HB1.out hBw);have KP3:=Lib.hid (KP1.out.below hBw);obtain⟨q0,q1,q2,q3,q4,ql⟩:=KP3.out.use5;obtain⟨z0,z1,z2,z3,z4⟩:=HAL.out.below hBw;obtain⟨u0,u1,u2,u3,u4⟩:=HAH.out.below hBw;clear hb hBw HEL HEH KP1 HB1 HBw k0 k1 k2 k3 k4 kl x0 x1 x2 x3 x4 y0 y1 y2 y3 y4
     refine hKz.out _ _ jq0d (fun hHeld=>?_)
     clear hKz Kz
     refine jsp ?_
     refine jtk 14 ?_
     refine jtk 15 ?_
     refine wpAnyH_done jo0f ?_ _
     go_wp2
     go_roundw
     case rel=>exact⟨j+1,by go_num,by omega,HB13.out,fun q hq ho=>by
      by_cases hqj:q=j
      ·subst hqj;exact HQ.out
      ·exact HI.out q j0i3 ho⟩
     case measure=>simp [intOf];omega
    ·have H3:=Lib.hid h3
     have HQ:=Lib.hid (show p.lo.q j≤p.hi.q j from Rat.le_of_lt h2)
     clear h2 h3
     go_wp2
     refine wp_region_held_drew (S:=(fun w'=>w'.cell? ⟨w.heap.size,2,none⟩=some (.slice (some ld) p.lo.n cl)∧w'.cell? ⟨w.heap.size,3,none⟩=some (.slice (some hd) p.hi.n ch)∧w'.cell? (ld.add (j*4))=some (.bool b5)∧w'.cell? ⟨(ld.add (j*4)).block,(ld.add (j*4)).off+1,none⟩=some (.slice A5 n5 c5)∧w'.cell? ⟨(ld.add (j*4)).block,(ld.add (j*4)).off+2,none⟩=some (.bool d5)∧w'.cell? ⟨(ld.add (j*4)).block,(ld.add (j*4)).off+3,none⟩=some (.slice B5 m5 k5)∧w'.cell? (hd.add (j*4))=some (.bool b6)∧w'.cell? ⟨(hd.add (j*4)).block,(hd.add (j*4)).off+1,none⟩=some (.slice A6 n6 c6)∧w'.cell? ⟨(hd.add (j*4)).block,(hd.add (j*4)).off+2,none⟩=some (.bool d6)∧w'.cell? ⟨(hd.add (j*4)).block,(hd.add (j*4)).off+3,none⟩=some (.slice B6 m6 k6))) jo0f ?_ (fun hHeld=>?_)
     ·(first | (refine⟨?_,?_,?_,?_,?_,?_,?_,?_,?_,?_⟩ <;> (first | with_reducible assumption | ((with_reducible refine Eq.trans (cell_drew _ _) ?_);with_reducible assumption) | go_keep)) | go_keep)
     refine jtk 0 ?_
     refine jtk 1 ?_
     refine jtk 2 ?_
     refine jtk 3 ?_
     refine jtk 4 ?_
     refine jtk 5 ?_
     refine jtk 6 ?_
     refine jtk 7 ?_
     refine jtk 8 ?_
     refine jtk 9 ?_
     refine jtk 10 ?_
     refine jtk 11 ?_
     refine jtk 12 ?_
     refine jrd 13 fun Kz hKz=>?_
     go_simp
     ((with_reducible refine Calls.mono (qcmp_is 1 H3.out HEH.out.drew_ HEL.out.drew_ j0i3 j0i3 h1 h1) ?_));rintro e w3 ⟨rfl,hb⟩;have hBw:=(show Below wr.heap.size wr w3 from jc22);have HB3:=Lib.hid (below_trans HBw.out hBw);have HB13:=Lib.hid (below_trans HB1.out hBw);have KP3:=Lib.hid (KP1.out.below hBw);obtain⟨q0,q1,q2,q3,q4,ql⟩:=KP3.out.use5;obtain⟨z0,z1,z2,z3,z4⟩:=HAL.out.below hBw;obtain⟨u0,u1,u2,u3,u4⟩:=HAH.out.below hBw;clear hb hBw HEL HEH KP1 HB1 HBw k0 k1 k2 k3 k4 kl x0 x1 x2 x3 x4 y0 y1 y2 y3 y4
     refine hKz.out _ _ jq0d (fun hHeld=>?_)
     clear hKz Kz
     refine jsp ?_
     refine jtk 14 ?_
     refine jtk 15 ?_
     refine wpAnyH_done jo0f ?_ _
     go_wp2
     go_roundw
     case rel=>exact⟨j+1,by go_num,by omega,HB13.out,fun q hq ho=>by
      by_cases hqj:q=j
      ·subst hqj;exact HQ.out
      ·exact HI.out q j0i3 ho⟩
     case measure=>simp [intOf];omega
   ·rw [hop] at hoc
    have HOP:=Lib.hid hop
    clear hop
    go_wp2
    refine wp_region_held_drew (S:=(fun w'=>True)) jo0f ?_ (fun hHeld=>?_)
    ·trivial
    refine jtk 0 ?_
    refine jtk 1 ?_
    refine jtk 2 ?_
    refine jsk 3 ?_
    refine jsk 4 ?_
    refine jsk 5 ?_
    refine jsk 6 ?_
    refine jsk 7 ?_
    refine jsk 8 ?_
    refine jsk 9 ?_
    refine jsk 10 ?_
    refine jsk 11 ?_
    refine jsk 12 ?_
    refine jsk 13 ?_
    refine jsk 14 ?_
    refine jtk 15 ?_
    refine wpAnyH_done jo0f ?_ _
    go_wp2
    go_roundw
    case rel=>exact⟨j+1,by go_num,by omega,HB1.out.drew,fun q hq ho=>by
     by_cases hqj:q=j
     ·subst hqj;rw [HOP.out] at ho;cases ho
     ·exact HI.out q j0i3 ho⟩
    case measure=>simp [intOf];omega
  ·obtain rfl:j=p.no:=by omega
   go_wp2
   go_ret
   exact⟨⟨_,rfl,fun _=>HI.out,fun _=>rfl⟩,HBw.out⟩
end Go.Proofs.YtgilnmhejjpleaaGreat
