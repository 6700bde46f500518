/- Contracts of the document: AddTimes, IsZero; Dot of rows that are not of one length; Of. -/
import Derived.Test.YtgilnmhejjpleaaGreatPYo
import Derived.ProofKit
import Derived.OpenShut
import Derived.Lib.SmallJoins
import Derived.Maps.AppendAt
namespace Go.Proofs.YtgilnmhejjpleaaGreat
open Go.RowKit
attribute [local go_sem ↓] Go.wp_at_zero Go.wp_at_succ
set_option linter.unusedVariables false
set_option maxRecDepth 100000 in
set_option maxHeartbeats 2000000 in
theorem ldot_no {A B:Option Addr} {n m c d:Nat} {w:World}(hn:n≤1000000)(hm:m≤1000000)(h:n≠m) :
 Calls Tryz.prog 40 #[.slice A n c,.slice B m d] w fun e w' => ∃v,e = .returned (.tuple #[v,.bool false])∧IsRat w' v 0∧Below w.heap.size w w':=by
 go_enter Tryz.func40,Tryz.ntmps40
 go_wp2_with fail
 refine Calls.mono (pairs_no hn hm h) ?_
 rintro e w0 ⟨rfl,rfl⟩
 clear h
 go_wp2_with fail
 refine Calls.mono (lzero _) ?_
 rintro e w1 ⟨v,rfl,h,hb⟩
 obtain⟨b1,A1,n1,c1,d1,B1,m1,k1,rfl,-,-,-,-,-⟩:=h.form
 have s_1:=Lib.hid h
 have HB_1:=Lib.hid (bun hb)
 have Kr_1:=Lib.hid (show Blk w1 w.heap.size 36 #[.bool false,.slice none 0 0,.bool false,.slice none 0 0] from(Blk.new _ _ rfl _ _).below hb)
 have hz:w.heap.size<w1.heap.size:=Kr_1.out.lt
 clear h hb
 go_wp2
 generalize hW:w1.alloc (.cells #[.bool b1,.slice A1 n1 c1,.bool d1,.slice B1 m1 k1] 36)=w2
 have s_2:=Lib.hid (show IsRat w2 (.agg #[.bool b1,.slice A1 n1 c1,.bool d1,.slice B1 m1 k1]) 0 from hW▸s_1.out.alloc_ _)
 have HB_2:=Lib.hid (show Below w.heap.size w w2 from hW▸halloc HB_1.out)
 have Kr_2:=Lib.hid (show Blk w2 w.heap.size 36 #[.bool false,.slice none 0 0,.bool false,.slice none 0 0] from hW▸Kr_1.out.alloc_ _)
 have Ks_2:=Lib.hid (show Blk w2 w1.heap.size 36 #[.bool b1,.slice A1 n1 c1,.bool d1,.slice B1 m1 k1] from hW▸Blk.new _ _ rfl _ _)
 clear hW s_1 HB_1 Kr_1
 go_loopw [20] (fun v20 wr=>v20 = .int .i64 0∧w2=wr) (fun _ _=>0)
 case atStart=>exact⟨rfl,rfl⟩
 case round =>
  obtain⟨rfl,rfl⟩:=hrel
  have hne:w.heap.size≠w1.heap.size := j0i3
  obtain⟨p10,p11,p12,p13,l1⟩:=Ks_2.out.use4
  obtain⟨p20,p21,p22,p23,l2⟩:=Kr_2.out.use4
  obtain⟨r20,r21,r22,r23⟩:=Kr_2.out.into4
  go_wp2
  obtain⟨WF,hWF⟩ : ∃W,W=((((w2.setCell ⟨w.heap.size,0,none⟩ (.bool b1)).setCell ⟨w.heap.size,1,none⟩ (.slice A1 n1 c1)).setCell ⟨w.heap.size,2,none⟩ (.bool d1)).setCell ⟨w.heap.size,3,none⟩ (.slice B1 m1 k1)):=⟨_,rfl⟩
  rw [← hWF]
  have kq0:Blk WF (w.heap.size) 36 #[.bool b1,.slice A1 n1 c1,.bool d1,.slice B1 m1 k1]:=by rw [hWF];exact((((Kr_2.out.set_ 0 (.bool b1)).set_ 1 (.slice A1 n1 c1)).set_ 2 (.bool d1)).set_ 3 (.slice B1 m1 k1))
  obtain⟨e00,e01,e02,e03⟩:=kq0.cells4
  have hBF:Below w.heap.size w WF:=by rw [hWF];exact(bset (bset (bset (bset HB_2.out j0i3) j0i3) j0i3) j0i3)
  have fq:IsRat WF (.agg #[.bool b1,.slice A1 n1 c1,.bool d1,.slice B1 m1 k1]) 0:=by rw [hWF];exact((((s_2.out.one Kr_2.out (i:=0) (x := .bool false) (y := .bool b1) rfl nu).one (Kr_2.out.set_ 0 (.bool b1)) (i:=1) (x := .slice none 0 0) (y := .slice A1 n1 c1) rfl nu).one ((Kr_2.out.set_ 0 (.bool b1)).set_ 1 (.slice A1 n1 c1)) (i:=2) (x := .bool false) (y := .bool d1) rfl nu).one (((Kr_2.out.set_ 0 (.bool b1)).set_ 1 (.slice A1 n1 c1)).set_ 2 (.bool d1)) (i:=3) (x := .slice none 0 0) (y := .slice B1 m1 k1) rfl nu)
  have HE:Hid (∃v,(Ending.returned (.tuple #[.agg #[.bool b1,.slice A1 n1 c1,.bool d1,.slice B1 m1 k1],.bool false])) = .returned (.tuple #[v,.bool false])∧IsRat WF v 0∧Below w.heap.size w WF):=⟨_,rfl,fq,hBF⟩
  clear hWF
  exact bodyPost_ret (v := .tuple #[.agg #[.bool b1,.slice A1 n1 c1,.bool d1,.slice B1 m1 k1],.bool false]) jy56 rfl HE.out
set_option maxRecDepth 100000 in
set_option maxHeartbeats 4000000 in
theorem raddTimes0 {p p':Bool} {k l j K n:Nat} {w:World} {va vb:Value} {f g:Nat→Rat} {z:Rat} {e:Bool} {E:Option Addr} {s t:Nat} {e':Bool} {E':Option Addr} {s' t':Nat}(ha:RowQ p k w va n f)(hb:RowQ p' l w vb n g)(hz:LimQ j w (.agg #[.bool e,.slice E s t,.bool e',.slice E' s' t']) z)(hk:k≤8000)(hl:l≤4000)(hj:j≤4000)(h1:1≤k)(h2:1≤l)(h3:1≤j)(hK:k+(j+l)+1≤K) :
 Calls Tryz.prog 32 #[va,vb,(.agg #[.bool e,.slice E s t,.bool e',.slice E' s' t'])] w fun e w' => ∃v,e = .returned (.tuple #[v,.bool true])∧RowT true K w' v n (fun i=>f i+z*g i)∧Below w.heap.size w w':=by
 have BP:=Lib.hid (fun i (hi:i<n)=>BQ.mul (hz.bq h3) (hb.bq h2 hi) (Nat.le_refl (j+l)))
 have BS:=Lib.hid (fun i (hi:i<n)=>BQ.add (ha.bq h1 hi) (BP.out i hi) hK)
 obtain⟨A,ca,rfl,_,hn⟩:=ha.len
 obtain⟨B,cb,rfl,_,_⟩:=hb.len
 have HA:=Lib.hid ha
 have HB:=Lib.hid hb
 have HZ:=Lib.hid hz
 have HN:=Lib.hid hn
 clear ha hb hz
 go_enter Tryz.func32,Tryz.ntmps32
 go_wp2
 generalize hW:w.alloc (.cells #[.bool e,.slice E s t,.bool e',.slice E' s' t'] 36)=w1
 have HI0:Hid (OwnR w1 w.heap.size (.slice none 0 0) 0 (fun _=>ratZ)∧Below w.heap.size w w1∧Blk w1 w.heap.size 36 #[.bool e,.slice E s t,.bool e',.slice E' s' t']):=⟨OwnR.nil,hW▸below_new _ _,hW▸Blk.new _ _ rfl _ _⟩
 clear hW
 go_loopw [8,9] (fun v8 v9 wr => ∃ (i:Nat) (X:Nat→RatD),v9 = .int .i64 (i:Nat)∧i≤n∧OwnR wr (w.heap.size+1) v8 i X∧(∀j,j<i→EQ true K wr (X j).val (f j+z*g j))∧Below w.heap.size w wr∧Blk wr w.heap.size 36 #[.bool e,.slice E s t,.bool e',.slice E' s' t']) (fun _ v9 _=>n - (intOf v9).toNat)
 case atStart=>exact⟨0,fun _=>ratZ,rfl,Nat.zero_le _,OwnR.nil,fun j hj=>absurd hj j0i3,HI0.out.2.1,HI0.out.2.2⟩
 case round =>
  obtain⟨i,X,rfl,hi,g1,g2,g3,g4⟩:=hrel
  have HO:=Lib.hid g1
  have HX:=Lib.hid g2
  have HBW:=Lib.hid g3
  have KK:=Lib.hid g4
  clear g1 g2 g3 g4 HI0
  by_cases hlt:i<n
  ·have hi0:(0:Int)≤(i:Int):=by omega
   have hik:(i:Int)<(n:Int) := j0i3
   obtain⟨ad,c1',⟨b5,A5,n5,c5,d5,B5,m5,k5⟩,e1,_,_,hata,hEa⟩:=HA.out.at_ hlt
   simp only [Value.slice.injEq] at e1
   obtain⟨rfl,_,rfl⟩:=e1
   obtain⟨bd,c2',⟨b6,A6,n6,c6,d6,B6,m6,k6⟩,e1,_,_,hatb,hEb⟩:=HB.out.at_ hlt
   simp only [Value.slice.injEq] at e1
   obtain⟨rfl,_,rfl⟩:=e1
   obtain⟨x0,x1,x2,x3,x4⟩:=hata.below HBW.out
   obtain⟨y0,y1,y2,y3,y4⟩:=hatb.below HBW.out
   have hxa:=hata.1
   have hyb:=hatb.1
   have HEA:=Lib.hid (hEa.2.below HBW.out)
   have HEB:=Lib.hid (hEb.2.below HBW.out)
   have HEZ:=Lib.hid (HZ.out.below HBW.out)
   obtain⟨p0,p1,p2,p3,pl⟩:=KK.out.use4
   clear hata hatb hEa hEb
   have tok0:True:=trivial
   have tok1:True:=trivial
   have tok2:True:=trivial
   go_wp2
   go_region_held3 (fun w'=>w'.cell? (ad.add (i*4))=some (.bool b5)∧w'.cell? ⟨(ad.add (i*4)).block,(ad.add (i*4)).off+1,none⟩=some (.slice A5 n5 c5)∧w'.cell? ⟨(ad.add (i*4)).block,(ad.add (i*4)).off+2,none⟩=some (.bool d5)∧w'.cell? ⟨(ad.add (i*4)).block,(ad.add (i*4)).off+3,none⟩=some (.slice B5 m5 k5)∧w'.cell? (bd.add (i*4))=some (.bool b6)∧w'.cell? ⟨(bd.add (i*4)).block,(bd.add (i*4)).off+1,none⟩=some (.slice A6 n6 c6)∧w'.cell? ⟨(bd.add (i*4)).block,(bd.add (i*4)).off+2,none⟩=some (.bool d6)∧w'.cell? ⟨(bd.add (i*4)).block,(bd.add (i*4)).off+3,none⟩=some (.slice B6 m6 k6)∧w'.cell? ⟨w.heap.size,0,none⟩=some (.bool e)∧w'.cell? ⟨w.heap.size,1,none⟩=some (.slice E s t)∧w'.cell? ⟨w.heap.size,2,none⟩=some (.bool e')∧w'.cell? ⟨w.heap.size,3,none⟩=some (.slice E' s' t')) (first | (refine⟨?_,?_,?_,?_,?_,?_,?_,?_,?_,?_,?_,?_⟩ <;> (first | with_reducible assumption | ((with_reducible refine Eq.trans (cell_drew _ _) ?_);with_reducible assumption) | go_keep)) | go_keep)
    (first
     |(go_at_call 45;have _t:=tok0;clear _t tok0;((with_reducible refine Calls.mono (rmul_q HEZ.out.drew_ HEB.out.drew_ j0i3 j0i3 h3 h2) ?_));rintro e w11 ⟨v,rfl,h,hb⟩;obtain⟨b5',A5',n5',c5',d5',B5',m5',k5',rfl,-,-,-,-,-⟩:=h.form;have hBw:=(show Below wr.heap.size wr w11 from jc22);have x011:=Nat.lt_of_lt_of_le x0 hBw.size;have y011:=Nat.lt_of_lt_of_le y0 hBw.size;have x111:=(hBw.cell (p:=(ad.add (i*4))) x0).trans x1;have x211:=(hBw.cell (p:=⟨(ad.add (i*4)).block,(ad.add (i*4)).off+1,none⟩) x0).trans x2;have x311:=(hBw.cell (p:=⟨(ad.add (i*4)).block,(ad.add (i*4)).off+2,none⟩) x0).trans x3;have x411:=(hBw.cell (p:=⟨(ad.add (i*4)).block,(ad.add (i*4)).off+3,none⟩) x0).trans x4;have y111:=(hBw.cell (p:=(bd.add (i*4))) y0).trans y1;have y211:=(hBw.cell (p:=⟨(bd.add (i*4)).block,(bd.add (i*4)).off+1,none⟩) y0).trans y2;have y311:=(hBw.cell (p:=⟨(bd.add (i*4)).block,(bd.add (i*4)).off+2,none⟩) y0).trans y3;have y411:=(hBw.cell (p:=⟨(bd.add (i*4)).block,(bd.add (i*4)).off+3,none⟩) y0).trans y4;have KK11:=Lib.hid (KK.out.below hBw);obtain⟨p011,p111,p211,p311,pl11⟩:=KK11.out.use4;have HB11:=Lib.hid (below_trans HBW.out hBw);have HO11:=Lib.hid (HO.out.below hBw);have HX11:=Lib.hid (fun j (hj:j<i)=>(HX.out j hj).below hBw);have HM11:=Lib.hid (h.limQ (BP.out i hlt));have HEA11:=Lib.hid (HEA.out.below hBw);clear hBw h hb HEA HEB HEZ x1 x2 x3 x4 y1 y2 y3 y4 p0 p1 p2 p3 pl KK HBW HO HX)
     |(go_at_call 31;have _t:=tok1;clear _t tok1;((with_reducible refine Calls.mono (radd_q HEA11.out HM11.out j0i3 j0i3 h1 j0i3) ?_));rintro e w12 ⟨v,rfl,h,hb⟩;obtain⟨b12,A12,n12,c12,d12,B12,m12,k12,rfl,-,-,-,-,-⟩:=h.form;have hBw:=(show Below w11.heap.size w11 w12 from jc22);have x012:=Nat.lt_of_lt_of_le x011 hBw.size;have y012:=Nat.lt_of_lt_of_le y011 hBw.size;have x112:=(hBw.cell (p:=(ad.add (i*4))) x011).trans x111;have x212:=(hBw.cell (p:=⟨(ad.add (i*4)).block,(ad.add (i*4)).off+1,none⟩) x011).trans x211;have x312:=(hBw.cell (p:=⟨(ad.add (i*4)).block,(ad.add (i*4)).off+2,none⟩) x011).trans x311;have x412:=(hBw.cell (p:=⟨(ad.add (i*4)).block,(ad.add (i*4)).off+3,none⟩) x011).trans x411;have y112:=(hBw.cell (p:=(bd.add (i*4))) y011).trans y111;have y212:=(hBw.cell (p:=⟨(bd.add (i*4)).block,(bd.add (i*4)).off+1,none⟩) y011).trans y211;have y312:=(hBw.cell (p:=⟨(bd.add (i*4)).block,(bd.add (i*4)).off+2,none⟩) y011).trans y311;have y412:=(hBw.cell (p:=⟨(bd.add (i*4)).block,(bd.add (i*4)).off+3,none⟩) y011).trans y411;have KK12:=Lib.hid (KK11.out.below hBw);obtain⟨p012,p112,p212,p312,pl12⟩:=KK12.out.use4;have HB12:=Lib.hid (below_trans HB11.out hBw);have HO12:=Lib.hid (HO11.out.below hBw);have HX12:=Lib.hid (fun j (hj:j<i)=>(HX11.out j hj).below hBw);have HT12:=Lib.hid (EQ.of (p:=true) h (BS.out i hlt));clear hBw h hb HM11 HEA11 x111 x211 x311 x411 y111 y211 y311 y411 p011 p111 p211 p311 pl11 KK11 HB11 HO11 HX11)
     |(have _t:=tok2;refine step_append_rats rfl rfl (.tmp 21) (.tmp 33) rfl (base:=w.heap.size+1) (n:=i) (m:=1) (c:=1) (X:=X) (Y:=fun _=>⟨b12,A12,n12,c12,d12,B12,m12,k12⟩) rfl (OwnR.alloc_ HO12.out _) rfl (rowAt_one w12 _ rfl ⟨b12,A12,n12,c12,d12,B12,m12,k12⟩) (fun e=>by cases e) (by have:=HN.out;omega) (by have:=pl12;simp;omega) ?_;intro v13 w13 ho hf;clear _t tok2;have hB1:=((below_new w12 (.cells #[.bool b12,.slice A12 n12 c12,.bool d12,.slice B12 m12 k12] 36)).mono (show w.heap.size+1≤w12.heap.size from pl12)).trans hf.below;have KK13:=Lib.hid (show Blk w13 w.heap.size 36 #[.bool e,.slice E s t,.bool e',.slice E' s' t'] from(hB1.block _ j0i3).trans KK12.out);obtain⟨p013,p113,p213,p313,pl13⟩:=KK13.out.use4;have x113:=(hB1.cell (p:=(ad.add (i*4))) (show(ad.add (i*4)).block<_ from j0i3)).trans x112;have x213:=(hB1.cell (p:=⟨(ad.add (i*4)).block,(ad.add (i*4)).off+1,none⟩) (show(ad.add (i*4)).block<_ from j0i3)).trans x212;have x313:=(hB1.cell (p:=⟨(ad.add (i*4)).block,(ad.add (i*4)).off+2,none⟩) (show(ad.add (i*4)).block<_ from j0i3)).trans x312;have x413:=(hB1.cell (p:=⟨(ad.add (i*4)).block,(ad.add (i*4)).off+3,none⟩) (show(ad.add (i*4)).block<_ from j0i3)).trans x412;have y113:=(hB1.cell (p:=(bd.add (i*4))) (show(bd.add (i*4)).block<_ from j0i3)).trans y112;have y213:=(hB1.cell (p:=⟨(bd.add (i*4)).block,(bd.add (i*4)).off+1,none⟩) (show(bd.add (i*4)).block<_ from j0i3)).trans y212;have y313:=(hB1.cell (p:=⟨(bd.add (i*4)).block,(bd.add (i*4)).off+2,none⟩) (show(bd.add (i*4)).block<_ from j0i3)).trans y312;have y413:=(hB1.cell (p:=⟨(bd.add (i*4)).block,(bd.add (i*4)).off+3,none⟩) (show(bd.add (i*4)).block<_ from j0i3)).trans y412;have HO13:=Lib.hid ho;have HX13:=Lib.hid (fun j (hj:j<i)=>((HX12.out j hj).alloc_ (.cells #[.bool b12,.slice A12 n12 c12,.bool d12,.slice B12 m12 k12] 36)).kp hf.keep);have HT13:=Lib.hid ((HT12.out.alloc_ (.cells #[.bool b12,.slice A12 n12 c12,.bool d12,.slice B12 m12 k12] 36)).kp hf.keep);have HB13:=Lib.hid (HB12.out.trans (hB1.mono j0i3));clear ho hf hB1 HT12 x112 x212 x312 x412 y112 y212 y312 y412 p012 p112 p212 p312 pl12 KK12 HB12 HO12 HX12))
   have HINV:Hid (OwnR w13 (w.heap.size+1) v13 (i+1) (appR X i (fun _=>⟨b12,A12,n12,c12,d12,B12,m12,k12⟩))∧(∀j,j<i+1→EQ true K w13 (appR X i (fun _=>⟨b12,A12,n12,c12,d12,B12,m12,k12⟩) j).val (f j+z*g j))∧Below w.heap.size w w13∧Blk w13 w.heap.size 36 #[.bool e,.slice E s t,.bool e',.slice E' s' t']):=⟨HO13.out,fun j hj=>by
    by_cases h:j<i
    ·rw [appR_lt _ _ _ h];exact HX13.out j h
    ·obtain rfl:j=i:=by omega
     have:=appR_ge X j (fun _=>⟨b12,A12,n12,c12,d12,B12,m12,k12⟩) 0
     rw [Nat.add_zero] at this
     rw [this]
     exact HT13.out,HB13.out,KK13.out⟩
   clear HO13 HX13 HB13 KK13 HT13
   go_wp2
   go_roundw
   case rel=>exact⟨i+1,_,by go_num,by omega,HINV.out⟩
   case measure=>simp [intOf];omega
  ·obtain rfl:i=n:=by omega
   go_wp2
   go_ret2
   exact⟨_,rfl,OwnR.rowT HO.out HN.out HX.out,HBW.out⟩
theorem raddTimes {p p':Bool} {k l j K n:Nat} {w:World} {va vb vz:Value} {f g:Nat→Rat} {z:Rat}(ha:RowQ p k w va n f)(hb:RowQ p' l w vb n g)(hz:LimQ j w vz z)(hk:k≤8000)(hl:l≤4000)(hj:j≤4000)(h1:1≤k)(h2:1≤l)(h3:1≤j)(hK:k+(j+l)+1≤K) :
 Calls Tryz.prog 32 #[va,vb,vz] w fun e w' => ∃v,e = .returned (.tuple #[v,.bool true])∧RowT true K w' v n (fun i=>f i+z*g i)∧Below w.heap.size w w':=by
 obtain⟨⟨e,E,s,t,e',E',s',t'⟩,rfl⟩:=hz.parts
 exact raddTimes0 ha hb hz hk hl hj h1 h2 h3 hK
end Go.Proofs.YtgilnmhejjpleaaGreat
namespace Go.Proofs.YtgilnmhejjpleaaGreat
open Go.RowKit
attribute [local go_sem ↓] Go.wp_at_zero Go.wp_at_succ
set_option linter.unusedVariables false
theorem rcmp_is {k l:Nat} {w:World} {v v':Value} {x y:Rat}(r:Int)(hr:cmpQ x y=r)(hx:LimQ k w v x)(hy:LimQ l w v' y)(hk:k≤20000)(hl:l≤20000)(h1:1≤k)(h1':1≤l):Calls Tryz.prog 28 #[v,v'] w fun e w'=>e = .returned (.int .i64 r)∧Below w.heap.size w w':=hr▸rcmp_q hx hy hk hl h1 h1'
set_option maxRecDepth 100000 in
set_option maxHeartbeats 2000000 in
theorem rsame {k l n:Nat} {w:World} {va vb:Value} {f g:Nat→Rat}(ha:RowQ true k w va n f)(hb:RowQ true l w vb n g)(he : ∀i,i<n→f i=g i)(hk:k≤100000) :
 Calls Tryz.prog 24 #[va,vb] w fun e w'=>e = .returned (.bool true)∧Below w.heap.size w w':=by
 obtain⟨A,ca,rfl,_,hn⟩:=ha.len
 obtain⟨B,cb,rfl,_,_⟩:=hb.len
 have HA:=Lib.hid ha
 have HB:=Lib.hid hb
 have HE:=Lib.hid he
 clear ha hb he
 go_enter Tryz.func24,Tryz.ntmps24
 go_wp2
 go_loopw [5] (fun v5 wr => ∃ (i:Nat),v5 = .int .i64 (i:Nat)∧i≤n∧Below w.heap.size w wr) (fun v5 _=>n - (intOf v5).toNat)
 case atStart=>exact⟨0,rfl,Nat.zero_le _,Below.refl _ _⟩
 case round =>
  obtain⟨i,rfl,hi,hbw⟩:=hrel
  have HW:=Lib.hid hbw
  clear hbw
  by_cases hlt:i<n
  ·have hi0:(0:Int)≤(i:Int):=by omega
   have hik:(i:Int)<(n:Int) := j0i3
   obtain⟨ad,c1',⟨b5,A5,n5,c5,d5,B5,m5,k5⟩,e1,_,_,⟨x0,x1,x2,x3,x4⟩,hEa⟩:=(HA.out.below HW.out).at_ hlt
   simp only [Value.slice.injEq] at e1
   obtain⟨rfl,_,rfl⟩:=e1
   obtain⟨bd,c2',⟨b6,A6,n6,c6,d6,B6,m6,k6⟩,e1,_,_,⟨y0,y1,y2,y3,y4⟩,hEb⟩:=(HB.out.below HW.out).at_ hlt
   simp only [Value.slice.injEq] at e1
   obtain⟨rfl,_,rfl⟩:=e1
   have e2:=HE.out i hlt
   have HX:=Lib.hid (hEa.1 rfl)
   have HY:=Lib.hid (show IsRat wr _ (f i) from e2▸(hEb.1 rfl).1)
   have tok0:True:=trivial
   clear hEa hEb e2
   go_wp2
   go_region_held3 (fun w'=>w'.cell? (ad.add (i*4))=some (.bool b5)∧w'.cell? ⟨(ad.add (i*4)).block,(ad.add (i*4)).off+1,none⟩=some (.slice A5 n5 c5)∧w'.cell? ⟨(ad.add (i*4)).block,(ad.add (i*4)).off+2,none⟩=some (.bool d5)∧w'.cell? ⟨(ad.add (i*4)).block,(ad.add (i*4)).off+3,none⟩=some (.slice B5 m5 k5)∧w'.cell? (bd.add (i*4))=some (.bool b6)∧w'.cell? ⟨(bd.add (i*4)).block,(bd.add (i*4)).off+1,none⟩=some (.slice A6 n6 c6)∧w'.cell? ⟨(bd.add (i*4)).block,(bd.add (i*4)).off+2,none⟩=some (.bool d6)∧w'.cell? ⟨(bd.add (i*4)).block,(bd.add (i*4)).off+3,none⟩=some (.slice B6 m6 k6)) (first | (refine⟨?_,?_,?_,?_,?_,?_,?_,?_⟩ <;> (first | with_reducible assumption | ((with_reducible refine Eq.trans (cell_drew _ _) ?_);with_reducible assumption) | go_keep)) | go_keep)
    (first
     |(go_at_call 14;have _t:=tok0;clear _t tok0;((with_reducible refine Calls.mono (rat_same HX.out.1.drew_ HY.out.drew_ HX.out.2 hk) ?_));rintro e w2 ⟨rfl,hb⟩;have hBw:=(show Below wr.heap.size wr w2 from jc22);have HW2:=Lib.hid (below_trans HW.out hBw);have x12:=(hBw.cell (p:=(ad.add (i*4))) x0).trans x1;have x22:=(hBw.cell (p:=⟨(ad.add (i*4)).block,(ad.add (i*4)).off+1,none⟩) x0).trans x2;have x32:=(hBw.cell (p:=⟨(ad.add (i*4)).block,(ad.add (i*4)).off+2,none⟩) x0).trans x3;have x42:=(hBw.cell (p:=⟨(ad.add (i*4)).block,(ad.add (i*4)).off+3,none⟩) x0).trans x4;have y12:=(hBw.cell (p:=(bd.add (i*4))) y0).trans y1;have y22:=(hBw.cell (p:=⟨(bd.add (i*4)).block,(bd.add (i*4)).off+1,none⟩) y0).trans y2;have y32:=(hBw.cell (p:=⟨(bd.add (i*4)).block,(bd.add (i*4)).off+2,none⟩) y0).trans y3;have y42:=(hBw.cell (p:=⟨(bd.add (i*4)).block,(bd.add (i*4)).off+3,none⟩) y0).trans y4;clear hb hBw HW x1 x2 x3 x4 y1 y2 y3 y4 HX HY))
   go_wp2
   go_roundw
   case rel=>exact⟨i+1,by go_num,by omega,HW2.out⟩
   case measure=>simp [intOf];omega
  ·obtain rfl:i=n:=by omega
   go_wp2
   go_ret
   exact⟨rfl,HW.out⟩
set_option maxRecDepth 100000 in
set_option maxHeartbeats 2000000 in
theorem rtables {k l m:Nat} {w:World} {va vb:Value} {Ln Mn:Nat→Nat} {F G:Nat→Nat→Rat}(ha:TabQ true k w va m Ln F)(hb:TabQ true l w vb m Mn G)(hL : ∀i,i<m→Ln i=Mn i)(he : ∀i,i<m→∀j,j<Ln i→F i j=G i j)(hk:k≤100000) :
 Calls Tryz.prog 46 #[va,vb] w fun e w'=>e = .returned (.bool true)∧Below w.heap.size w w':=by
 obtain⟨A,ca,rfl,_,hn⟩:=ha.len
 obtain⟨B,cb,rfl,_,_⟩:=hb.len
 have HA:=Lib.hid ha
 have HB:=Lib.hid hb
 have HL:=Lib.hid hL
 have HE:=Lib.hid he
 clear ha hb hL he
 go_enter Tryz.func46,Tryz.ntmps46
 go_wp2
 go_loopw [5] (fun v5 wr => ∃ (i:Nat),v5 = .int .i64 (i:Nat)∧i≤m∧Below w.heap.size w wr) (fun v5 _=>m - (intOf v5).toNat)
 case atStart=>exact⟨0,rfl,Nat.zero_le _,Below.refl _ _⟩
 case round =>
  obtain⟨i,rfl,hi,hbw⟩:=hrel
  have HW:=Lib.hid hbw
  clear hbw
  by_cases hlt:i<m
  ·have hi0:(0:Int)≤(i:Int):=by omega
   have hik:(i:Int)<(m:Int) := j0i3
   obtain⟨td,ct',R,cR,e1,_,htb,hcell,_,_,hR⟩:=(HA.out.below HW.out).at_ hlt
   simp only [Value.slice.injEq] at e1
   obtain⟨rfl,_,rfl⟩:=e1
   obtain⟨ud,cu',U,cU,e1,_,hub,hucell,_,_,hU⟩:=(HB.out.below HW.out).at_ hlt
   simp only [Value.slice.injEq] at e1
   obtain⟨rfl,_,rfl⟩:=e1
   have HR:=Lib.hid hR
   have HU:=Lib.hid (show RowQ true l wr (.slice U (Mn i) cU) (Ln i) (G i) from by rw [HL.out i hlt];exact hU)
   have tok0:True:=trivial
   clear hR hU
   go_wp2
   go_region_held3 (fun w'=>w'.cell? (td.add i)=some (.slice R (Ln i) cR)∧w'.cell? (ud.add i)=some (.slice U (Mn i) cU)) (first | (refine⟨?_,?_⟩ <;> (first | with_reducible assumption | ((with_reducible refine Eq.trans (cell_drew _ _) ?_);with_reducible assumption) | go_keep)) | go_keep)
    (first
     |(go_at_call 24;have _t:=tok0;clear _t tok0;((with_reducible refine Calls.mono (rsame HR.out.drew_ HU.out.drew_ (HE.out i hlt) hk) ?_));rintro e w2 ⟨rfl,hb⟩;have hBw:=(show Below wr.heap.size wr w2 from jc22);have HW2:=Lib.hid (below_trans HW.out hBw);have hc2:=(hBw.cell (p:=td.add i) (by rw [add_block];exact htb)).trans hcell;have hd2:=(hBw.cell (p:=ud.add i) (by rw [add_block];exact hub)).trans hucell;clear hb hBw HW hcell hucell HR HU))
   go_wp2
   go_roundw
   case rel=>exact⟨i+1,by go_num,by omega,HW2.out⟩
   case measure=>simp [intOf];omega
  ·obtain rfl:i=m:=by omega
   go_wp2
   go_ret
   exact⟨rfl,HW.out⟩
def RowR(w:World)(v:Value)(n:Nat)(X:Nat→RatD)(q:Nat→Rat):Prop := ∃A c,v = .slice A n c∧Fits A n c∧n≤9223372036854775807∧RowAt w A n X∧∀i,i<n→(X i).n≤1→(X i).n'≤1→LimQ 1 w (X i).val (q i)
def FewPost(w w':World)(e:Ending)(P:Prop):Prop:=(∃b,e = .returned (.bool b)∧(b=true↔P))∧w'=w
def FewP(n:Nat)(X:Nat→RatD)(N:Nat):Prop:=n≤N∧∀i,i<n→(X i).n≤1∧(X i).n'≤1
theorem RowR.few {w:World} {v:Value} {n N:Nat} {X:Nat→RatD} {q:Nat→Rat}(h:RowR w v n X q)(hf:FewP n X N)(hN:N≤1000000):RowQ false 1 w v n q:=by
 obtain⟨A,c,h0,h1,h2,h3,h4⟩:=h
 exact⟨A,c,X,h0,h1,by have:=hf.1;omega,h3,fun i hi=>EQ.lim (h4 i hi (hf.2 i hi).1 (hf.2 i hi).2)⟩
theorem RowR.below {w w':World} {v:Value} {n:Nat} {X:Nat→RatD} {q:Nat→Rat}(h:RowR w v n X q)(hb:Below w.heap.size w w'):RowR w' v n X q:=by
 obtain⟨A,c,h0,h1,h2,h3,h4⟩:=h
 exact⟨A,c,h0,h1,h2,h3.below hb,fun i hi a b=>(h4 i hi a b).below hb⟩
set_option maxRecDepth 100000 in
set_option maxHeartbeats 2000000 in
theorem rfew {w:World} {v:Value} {n N:Nat} {X:Nat→RatD} {q:Nat→Rat}(h:RowR w v n X q)(hN:N≤1000) :
 Calls Tryz.prog 19 #[v,.int .i64 (N:Nat)] w fun e w'=>FewPost w w' e (FewP n X N):=by
 obtain⟨A,c,rfl,_,hn,hX,_⟩:=h
 have HX:=Lib.hid hX
 clear hX
 by_cases hlong:N<n
 ·have hl:(N:Int)<(n:Int):=by omega
  go_enter Tryz.func19,Tryz.ntmps19
  go_wp2
  go_ret
  exact⟨⟨_,rfl,fun h => j40t,fun h=>absurd h.1 j0i3⟩,rfl⟩
 have hl : ¬ (N:Int)<(n:Int) := j0i3
 go_enter Tryz.func19,Tryz.ntmps19
 go_wp2
 go_loopw [5] (fun v5 wr => ∃ (i:Nat),v5 = .int .i64 (i:Nat)∧i≤n∧w=wr∧∀j,j<i→(X j).n≤1∧(X j).n'≤1) (fun v5 _=>n - (intOf v5).toNat)
 case atStart=>exact⟨0,rfl,Nat.zero_le _,rfl,fun j hj=>absurd hj j0i3⟩
 case round =>
  obtain⟨i,rfl,hi,rfl,hinv⟩:=hrel
  have HI:=Lib.hid hinv
  clear hinv
  by_cases hlt:i<n
  ·have hi0:(0:Int)≤(i:Int):=by omega
   have hik:(i:Int)<(n:Int) := j0i3
   obtain⟨ad,rfl,x0,x1,x2,x3,x4⟩:=HX.out i hlt
   generalize hx:X i=x at *
   obtain⟨b5,A5,n5,c5,d5,B5,m5,k5⟩:=x
   have EX:=Lib.hid hx
   have e1:(X i).n=n5:=by rw [hx]
   have e2:(X i).n'=m5:=by rw [hx]
   have E1:=Lib.hid e1
   have E2:=Lib.hid e2
   clear e1 e2 hx
   dsimp only at x1 x2 x3 x4
   by_cases h5:n5≤1
   ·have h5' : ¬ (1:Int)<(n5:Int):=by omega
    by_cases h6:m5≤1
    ·have h6' : ¬ (1:Int)<(m5:Int):=by omega
     go_wp2
     go_roundw
     case rel=>exact⟨i+1,by go_num,by omega,by first | rfl | trivial,fun j hj=>by
      by_cases hji:j=i
      ·rw [hji,E1.out,E2.out];exact⟨h5,h6⟩
      ·exact HI.out j j0i3⟩
     case measure=>simp [intOf];omega
    ·have h6':(1:Int)<(m5:Int):=by omega
     go_wp2
     go_ret
     exact⟨⟨_,rfl,fun h => j40t,fun h=>absurd (E2.out▸(h.2 i hlt).2) h6⟩,rfl⟩
   ·have h5':(1:Int)<(n5:Int):=by omega
    go_wp2
    go_ret
    exact⟨⟨_,rfl,fun h => j40t,fun h=>absurd (E1.out▸(h.2 i hlt).1) h5⟩,rfl⟩
  ·obtain rfl:i=n:=by omega
   go_wp2
   go_ret
   exact⟨⟨_,rfl,fun _=>⟨by omega,HI.out⟩,fun _=>rfl⟩,rfl⟩
set_option maxRecDepth 100000 in
set_option maxHeartbeats 1000000 in
theorem lawOf {N:Int}(w:World)(h1 : -9223372036854775808≤N)(h2:N≤9223372036854775807) :
 Calls Tryz.prog 63 #[.int .i64 N] w fun e w'=>RatPost w w' e (Rat.divInt N 1):=by
 go_enter Tryz.func63,Tryz.ntmps63
 go_wp2_with fail
 refine Calls.mono (rof3_q N 1 _ h1 h2 j0i3 j0i3) ?_
 rintro e w1 ⟨v,rfl,h,hb⟩
 obtain⟨b1,A1,n1,c1,d1,B1,m1,k1,rfl,-,-,-,-,-⟩:=h.form
 have hB:=bun (hb)
 have Kr_1:=Lib.hid (show Blk w1 (w.heap.size) 36 #[.bool false,.slice none 0 0,.bool false,.slice none 0 0] from(Blk.new _ _ jupy _ _).below hb)
 have s_1:=Lib.hid (h)
 have HB_1:=Lib.hid (hB)
 have hs_1:w.heap.size≤w1.heap.size:=HB_1.out.size
 have hz_1:w.heap.size+1≤w1.heap.size := jrv7
 clear hB hb
 obtain⟨p10,p11,p12,p13,l1⟩:=Kr_1.out.use4
 obtain⟨r10,r11,r12,r13⟩:=Kr_1.out.into4
 go_wp2
 obtain⟨WF,hWF⟩ : ∃W,W=(((((w1.setCell ⟨w.heap.size,0,none⟩ (.bool b1)).setCell ⟨w.heap.size,1,none⟩ (.slice A1 n1 c1)).setCell ⟨w.heap.size,2,none⟩ (.bool d1)).setCell ⟨w.heap.size,3,none⟩ (.slice B1 m1 k1)).alloc (.cells #[.bool b1,.slice A1 n1 c1,.bool d1,.slice B1 m1 k1] 36)):=⟨_,rfl⟩
 rw [← hWF]
 have kq:Blk WF w.heap.size 36 #[.bool b1,.slice A1 n1 c1,.bool d1,.slice B1 m1 k1]:=by rw [hWF];exact Kr_1.out.own4.alloc_ _
 have hBF:Below w.heap.size w WF:=by rw [hWF];exact halloc (Below.set4 HB_1.out (Nat.le_refl _))
 have fq:IsRat WF (.agg #[.bool b1,.slice A1 n1 c1,.bool d1,.slice B1 m1 k1]) (Rat.divInt N 1):=by rw [hWF];exact(s_1.out.other4 Kr_1.out nu nu nu nu).alloc_ _
 have HE:Hid (RatPost w WF (Ending.returned (.agg #[.bool b1,.slice A1 n1 c1,.bool d1,.slice B1 m1 k1])) (Rat.divInt N 1)):=⟨_,rfl,fq,hBF⟩
 obtain⟨e0,e1,e2,e3⟩:=kq.cells4
 clear hWF
 exact bodyPost_ret (v:=(.agg #[.bool b1,.slice A1 n1 c1,.bool d1,.slice B1 m1 k1])) (by simp [results,Tryz.results63,go_sem,e0,e1,e2,e3] <;> omega) rfl HE.out
end Go.Proofs.YtgilnmhejjpleaaGreat
namespace Go.Proofs.YtgilnmhejjpleaaGreat
open Go.RowKit
attribute [local go_sem ↓] Go.wp_at_zero Go.wp_at_succ
set_option linter.unusedVariables false
set_option linter.unusedSimpArgs false
def twoR(a b:Rat):Nat→Rat:=fun i=>if i=0 then a else b
theorem row2 {p:Bool} {k:Nat} {w:World} {g:Nat}(hg:g=w.heap.size) {b1:Bool} {A1:Option Addr} {n1 c1:Nat} {d1:Bool} {B1:Option Addr} {m1 k1:Nat} {b2:Bool} {A2:Option Addr} {n2 c2:Nat} {d2:Bool} {B2:Option Addr} {m2 k2:Nat} {q r:Rat}
 (h1:EQ p k w (.agg #[.bool b1,.slice A1 n1 c1,.bool d1,.slice B1 m1 k1]) q) (h2:EQ p k w (.agg #[.bool b2,.slice A2 n2 c2,.bool d2,.slice B2 m2 k2]) r) :
 RowT p k (w.alloc (.cells #[.bool b1,.slice A1 n1 c1,.bool d1,.slice B1 m1 k1,.bool b2,.slice A2 n2 c2,.bool d2,.slice B2 m2 k2] 36)) (.slice (some ⟨g,0,none⟩) 2 2) 2 (twoR q r):=by
 have hk:=Blk.new w g hg 36 #[.bool b1,.slice A1 n1 c1,.bool d1,.slice B1 m1 k1,.bool b2,.slice A2 n2 c2,.bool d2,.slice B2 m2 k2]
 refine⟨_,2,fun i=>if i=0 then ⟨b1,A1,n1,c1,d1,B1,m1,k1⟩ else ⟨b2,A2,n2,c2,d2,B2,m2,k2⟩,rfl,⟨Nat.le_refl _,fun e=>by cases e⟩,by omega,fun i hi=>⟨_,rfl,?_⟩,fun i hi=>?_,fun a e=>by injection e with e;subst e;exact⟨_,_,hk⟩⟩
 ·have:i=0∨i=1:=by omega
  rcases this with rfl | rfl
  ·exact⟨hk.lt,hk.cell 0,hk.cell 1,hk.cell 2,hk.cell 3⟩
  ·exact⟨hk.lt,hk.cell 4,hk.cell 5,hk.cell 6,hk.cell 7⟩
 ·have:i=0∨i=1:=by omega
  rcases this with rfl | rfl
  ·exact h1.alloc_ _
  ·exact h2.alloc_ _
theorem law_d1:Rat.divInt 1 1=1:=rfl
theorem law_d2:Rat.divInt 2 1=2:=rfl
theorem law_d3:Rat.divInt 3 1=3:=rfl
theorem law_d0:Rat.divInt 0 1=0:=rfl
theorem law_dm1:Rat.divInt (-1) 1 = -1:=rfl
theorem bq1:BQ 1 1:=⟨by decide,by decide⟩
theorem bq2:BQ 1 2:=⟨by decide,by decide⟩
theorem bq3:BQ 1 3:=⟨by decide,by decide⟩
theorem bq0:BQ 1 0:=⟨by decide,by decide⟩
theorem bqm1:BQ 1 (-1):=⟨by decide,by decide⟩
section
variable {p:Bool} {k m:Nat} {w:World} {v:Value} {Ln:Nat→Nat} {F:Nat→Nat→Rat}
theorem TabQ.alloc_(h:TabQ p k w v m Ln F)(o:Obj):TabQ p k (w.alloc o) v m Ln F:=h.below (below_new w o)
end
end Go.Proofs.YtgilnmhejjpleaaGreat
namespace Go.Proofs.YtgilnmhejjpleaaGreat
open Go.ChangeShapes Go.WideShapes Go.ChangeAt Go.RowKit
set_option linter.unusedSimpArgs false
set_option linter.unusedVariables false
set_option maxRecDepth 100000
theorem cellsRow_:Tryz.prog.cellsOf 22=1:=by kernel_rfl
theorem adr_add(ad:Addr)(j:Nat)(h:j≠0):ad.add j=⟨ad.block,ad.off+j,none⟩:=by
 unfold Addr.add
 rw [if_neg h]
set_option maxRecDepth 100000 in
theorem rrow_trod {H:Type} {enc:TypeId × Value→H} {W:World} {base n:Nat} {held:Bool} {v:Value} {y:DataW H × List MemPlace}(hf:DataW.trod enc Tryz.prog W base (fun _=>true) held n 22 [v]=some y) :
 ∃ (len:Nat) (X:Nat→RatD) (q:Nat→Rat),RowR W v len X q:=by
 obtain⟨d,p⟩:=y
 rcases DataW.trod_slice Tryz.underlying22 hf with ⟨hcs,_⟩ | ⟨a,l,c,elems,rest,n,_,hcs,_,hb,hl,hm,hlen,hel,_⟩
 ·simp at hcs
  subst hcs
  exact⟨0,fun _=>ratZ,fun _=>0,none,0,rfl,⟨Nat.le_refl _,fun _=>rfl⟩,by omega,fun i hi=>absurd hi j0i3,fun i hi=>absurd hi j0i3⟩
 ·simp at hcs
  subst hcs
  have each : ∀i,∃t:RatD × Rat,i<l→RatAt W (a.add (i*4)) t.1∧(t.1.n≤1→t.1.n'≤1→LimQ 1 W t.1.val t.2):=fun i=>by
   by_cases hi:i<l
   ·have he:=hel i hi
    obtain⟨y,hy⟩ : ∃y,elems[i]? = some y:=⟨elems[i],List.getElem?_eq_getElem j0i3⟩
    rw [hy,Option.bind_eq_some_iff,cellsR_] at he
    obtain⟨cs,hc,ht⟩:=he
    have hblk:=World.cells?_block hc j0i3
    obtain⟨_,hcl,hcc⟩:=World.cells?_some hc
    obtain⟨c0,c1,c2,c3,rfl⟩ : ∃c0 c1 c2 c3,cs = [c0,c1,c2,c3]:=by
     match cs,hcl with
     | [c0,c1,c2,c3],_=>exact⟨c0,c1,c2,c3,rfl⟩
    have q0:=hcc 0 j0i3
    have q1:=hcc 1 j0i3
    have q2:=hcc 2 j0i3
    have q3:=hcc 3 j0i3
    obtain⟨y0,y1,m,_,_,h0,h1⟩:=trod_struct2 Tryz.underlying36 ht
    simp only [cellsRI_,List.drop_zero,List.drop_succ_cons,List.take_succ_cons,List.take_zero] at h0 h1
    obtain⟨b,s,l',c',X,rfl,rfl,hX⟩:=part_open h0
    obtain⟨b',s',l'',c'',Y,rfl,rfl,hY⟩:=part_open h1
    refine⟨(⟨b,s,l',c',b',s',l'',c''⟩,ratOf X Y),fun _=>⟨⟨hblk,?_,?_,?_,?_⟩,fun g g'=>⟨X,Y,limR_mk (hX.more g) (hY.more g'),rfl⟩⟩⟩
    ·have:(a.add (i*4)).add 0=a.add (i*4):=rfl
     rw [this] at q0
     exact q0
    ·rw [adr_add _ 1 j0i3] at q1;exact q1
    ·rw [adr_add _ 2 j0i3] at q2;exact q2
    ·rw [adr_add _ 3 j0i3] at q3;exact q3
   ·exact⟨(ratZ,0),fun h=>absurd h hi⟩
  obtain⟨g,hg⟩:=Classical.axiomOfChoice each
  exact⟨l,fun i=>(g i).1,fun i=>(g i).2,some a,c,rfl,⟨hl,fun e=>by cases e⟩,by simp only [maxLen] at hm;omega,fun i hi=>⟨a,rfl,(hg i hi).1⟩,fun i hi=>(hg i hi).2⟩
theorem rrow_open {H:Type} {enc:TypeId × Value→H} {W:World} {base b0:Nat} {held:Bool} {r:Reach} {v:Value} {d:DataW H} {p:List MemPlace}(hv:Value.okWide Tryz.prog W r b0 22 v)(h:DataW.Trod enc Tryz.prog W base (fun _=>true) held 22 v d p) :
 ∃ (A:Option Addr) (len cap:Nat) (X:Nat→RatD) (q:Nat→Rat),v = .slice A len cap∧RowR W (.slice A len cap) len X q:=by
 obtain⟨A,len,cap,rfl⟩:=okWide_slice Tryz.underlying22 hv
 obtain⟨fuel,hf⟩:=h
 have hf:DataW.trod enc Tryz.prog W base (fun _=>true) held fuel 22 [Value.slice A len cap]=some (d,p):=by simpa [Value.cells] using hf
 obtain⟨n,X,q,h⟩:=rrow_trod hf
 obtain⟨A',c',e,_⟩:=id h
 injection e with _ e _
 subst e
 exact⟨A,len,cap,X,q,rfl,h⟩
end Go.Proofs.YtgilnmhejjpleaaGreat
namespace Go.Proofs.YtgilnmhejjpleaaGreat
open Go.RowKit
attribute [local go_sem ↓] Go.wp_at_zero Go.wp_at_succ
set_option linter.unusedVariables false
set_option linter.unusedSimpArgs false
theorem RowR.alloc_ {w:World} {v:Value} {n:Nat} {X:Nat→RatD} {q:Nat→Rat}(h:RowR w v n X q)(o:Obj):RowR (w.alloc o) v n X q:=h.below (below_new w o)
end Go.Proofs.YtgilnmhejjpleaaGreat
namespace Go.Proofs.YtgilnmhejjpleaaGreat
open Go.RowKit
attribute [local go_sem ↓] Go.wp_at_zero Go.wp_at_succ
set_option linter.unusedVariables false
set_option linter.unusedSimpArgs false
theorem cmpQ_self(x:Rat):cmpQ x x=0:=by
 unfold cmpQ
 rw [if_neg (Rat.lt_irrefl),if_pos rfl]
end Go.Proofs.YtgilnmhejjpleaaGreat
namespace Go.Proofs.YtgilnmhejjpleaaGreat
open Go.RowKit
set_option linter.unusedSimpArgs false
set_option linter.unusedVariables false
set_option maxRecDepth 100000
theorem RowAt.cells_ {w:World} {ad:Addr} {m:Nat} {Y:Nat→RatD}(hY:RowAt w (some ad) m Y) : ∀j u,(rowR Y m)[j]? = some u→w.cell? (ad.add j)=some u:=fun j u hu=>by
 have hj:j<m*4:=by
  rcases Nat.lt_or_ge j (m*4) with h1 | h1
  ·exact h1
  ·rw [List.getElem?_eq_none (by rw [rowR_len];exact h1)] at hu;cases hu
 have e:j=j / 4*4+j % 4 := j0i3
 have hi:j / 4<m := j0i3
 have hr:j % 4<4 := j0i3
 generalize j / 4=q at *
 generalize j % 4=r at *
 subst e
 rw [rowR_get Y hr m hi] at hu
 obtain⟨ad',e',p0,p1,p2,p3,p4⟩:=hY q hi
 injection e' with e'
 subst e'
 have hcl : ∀j,j≠0→(⟨(ad.add (q*4)).block,(ad.add (q*4)).off+j,none⟩:Addr)=(ad.add (q*4)).add j:=fun j hj=>by
  generalize ad.add (q*4)=b
  unfold Addr.add
  rw [if_neg hj]
 rw [← add_add]
 have:r=0∨r=1∨r=2∨r=3 := j0i3
 rcases this with rfl | rfl | rfl | rfl <;> simp [ratL] at hu <;> subst hu
 ·exact p1
 ·rw [← hcl 1 j0i3];exact p2
 ·rw [← hcl 2 j0i3];exact p3
 ·rw [← hcl 3 j0i3];exact p4
section
variable {w:World}
variable {P:Program} {ops:Array Oper} {o:Oper} {a:Act} {K:Act→World→Prop} {Q:Exit→Act→World→Prop} {E:Prop}
end
def OwnV(w:World)(base:Nat)(t:TypeId)(v:Value)(m:Nat)(r:Nat→Value):Prop:=OwnN w base t 1 v m ((List.range m).map r)
section
variable {w w':World} {base m g c:Nat} {t:TypeId} {v:Value} {r:Nat→Value}
theorem OwnV.at_(h:OwnV w base t (.slice (some ⟨g,0,none⟩) m c) m r) {i:Nat}(hi:i<m):w.cell? ⟨g,i,none⟩=some (r i):=by
 rw [OwnN.cellAt h i j0i3]
 simp [hi]
theorem OwnV.set1(h:OwnV w base t (.slice (some ⟨g,0,none⟩) m c) m r) {i:Nat}(hi:i<m) {u:Value}(hu:Nu u) {W:World}(hW:W=w.setCell ⟨g,i,none⟩ u) :
 OwnV W base t (.slice (some ⟨g,0,none⟩) m c) m (updR r i u)∧Fz base t w W:=by
 subst hW
 unfold OwnV at *
 have h1:=OwnN.stored h i u hu
 refine⟨?_,h1.2⟩
 have e:((List.range m).map r).set i u=(List.range m).map (updR r i u):=by
  apply List.ext_getElem?
  intro j
  by_cases hj:j=i
  ·subst hj
   simp [hi,updR_at]
  ·rw [List.getElem?_set_ne (fun e=>hj e.symm)]
   by_cases hjm:j<m
   ·simp [hjm,updR_ne _ _ hj]
   ·simp [hjm]
 rw [← e]
 exact h1.1
end
section
variable {P:Program} {w:World} {ops:Array Oper} {rest:List Oper} {o:Oper} {a:Act} {Q:Exit→Act→World→Prop}
theorem wpList_make_vals(hg:o.guard=none)(l c:Operand)(t:TypeId)(hop:o.op=Op.makeSlice t l c)(base:Nat)(e:TypeId)(z:Value)(bytes:Nat)(ht:P.underlying t=some (.slice e))(hinfo:(P.info? e).map (fun i=>(i.zero,i.size,i.bytes))=some (some z,1,bytes))(hz1:z.cells = #[z])(hzn:Nu z)
 (kl kc:IntKind) (L C:Int) (n:Nat) (hl:a.eval l = .int kl L) (hc:a.eval c = .int kc C) (hL:L=(n:Int)) (hC:C=(n:Int)) (hn:n≤1000000) (hb:bytes≤64) (hbase:base≤w.heap.size)
 (hK : ∀w',OwnV w' base e (.slice (some ⟨w.heap.size,0,none⟩) n n) n (fun _=>z)→Below w.heap.size w w'→w'.heap.size=w.heap.size+1→wpList P ops Q rest (a.put o.dst (.slice (some ⟨w.heap.size,0,none⟩) n n)) w') :
 wpList P ops Q (o :: rest) a w:=by
 refine wpList_plain hg fun K hK'=>?_
 subst hL
 subst hC
 have hbn:bytes*n≤64*1000000:=Nat.mul_le_mul hb hn
 obtain⟨w',hrun,h1,h2,h3⟩:=run_make_ownN (P:=P) (w:=w) base t e z 1 bytes ht hinfo (by rw [hz1];rfl) j0i3 (fun u hu=>by rw [hz1] at hu;simp at hu;subst hu;exact hzn) kl kc n j0i3 j22u hbase
 unfold Oper.wp
 simp [execOp,hop,hl,hc,hrun,Result.andThen]
 refine hK' _ _ (hK _ ?_ h2 h3)
 have e:(madeCells z.cells (n*1)).toList=(List.range n).map (fun _=>z):=by
  rw [hz1,toList_madeCells_one,Nat.mul_one]
  apply List.ext_getElem?
  intro j
  by_cases hj:j<n <;> simp [hj]
 unfold OwnV
 rw [← e]
 exact h1
end
theorem int_info:(Tryz.prog.info? 3).map (fun i=>(i.zero,i.size,i.bytes))=some (some (.int .i64 0),1,8):=by kernel_rfl
end Go.Proofs.YtgilnmhejjpleaaGreat
namespace Go.Proofs.YtgilnmhejjpleaaGreat
open Go.RowKit
set_option linter.unusedSimpArgs false
set_option linter.unusedVariables false
set_option maxRecDepth 100000
def Grew(w w':World)(v v':Value):Prop:=w.grownBy w' v.ownBlock∧(v'.ownBlock=v.ownBlock∨v'.ownBlock=some w.heap.size)
def Apart(v u:Value):Prop := ∀g,v.ownBlock=some g→u.ownBlock≠some g
section
variable {w w':World} {v v' u:Value} {base z n m k:Nat} {t:TypeId} {xs:List Value} {p:Bool} {f:Nat→Rat}
theorem Apart.symm(h:Apart v u):Apart u v:=fun g h1 h2=>h g h2 h1
theorem Apart.nil:Apart (.slice none 0 0) u:=fun g h=>by cases h
theorem OwnN.inside(h:OwnN w base t z u n xs) {g:Nat}(e:u.ownBlock=some g):base≤g∧g<w.heap.size:=by
 rcases h.2 with ⟨rfl,_⟩ | ⟨g',cap,cur,rfl,h2,h3,_⟩
 ·cases e
 ·injection e with e
  subst e
  exact⟨h2,h3.lt⟩
theorem Apart.grew(h:Apart v u)(hg:Grew w w' v v')(hu : ∀g,u.ownBlock=some g→g<w.heap.size):Apart v' u:=fun g h1 h2=>by
 rcases hg.2 with e | e
 ·exact h g (e▸h1) h2
 ·rw [e] at h1
  injection h1 with h1
  have:=hu g h2
  omega
theorem OwnN.grew(h:OwnN w base t z u n xs)(hg:Grew w w' v v')(ha:Apart v u):OwnN w' base t z u n xs:=by
 refine⟨h.1,?_⟩
 rcases h.2 with h | ⟨g,cap,cur,rfl,h2,h3,h4⟩
 ·exact .inl h
 ·refine .inr ⟨g,cap,cur,rfl,h2,?_,h4⟩
  show w'.heap[g]? = _
  rw [hg.1.block g h3.lt (fun e=>ha g e.symm rfl)]
  exact h3
variable {P:Program} {Q:Exit→Act→World→Prop} {ops:Array Oper} {rest:List Oper} {o:Oper} {a:Act}
end
theorem appR_at {α:Type}(X:Nat→α)(i:Nat)(y:α):appR X i (fun _=>y) i=y:=by
 have:=appR_ge X i (fun _=>y) 0
 rw [Nat.add_zero] at this
 exact this
end Go.Proofs.YtgilnmhejjpleaaGreat
