/- A standard form under way: rows of one's own, each in a block of its own. -/
import Derived.Test.YtgilnmhejjpleaaGreatPGn
namespace Go.Proofs.YtgilnmhejjpleaaGreat
open Go.RowKit
set_option linter.unusedSimpArgs false
set_option linter.unusedVariables false
set_option maxRecDepth 100000
structure StdO (K:Nat) (w:World) (base:Nat) (va vb vc:Value) (M:Nat) (Ln:Nat→Nat) (N:Nat) (r:Nat→Value) (XA:Nat→Nat→RatD) (XB XC:Nat→RatD) (A:Nat→Nat→Rat) (B C:Nat→Rat):Prop where
 tab:OwnT w base va M r
 rows : ∀i,i<M→OwnR w base (r i) (Ln i) (XA i)
 rowE : ∀i,i<M→∀j,j<Ln i→EQ true K w (XA i j).val (A i j)
 rb:OwnR w base vb M XB
 rbE : ∀i,i<M→EQ true K w (XB i).val (B i)
 rc:OwnR w base vc N XC
 rcE : ∀j,j<N→EQ true K w (XC j).val (C j)
 apR : ∀i j,i<M→j<M→i≠j→Apart (r i) (r j)
 apB : ∀i,i<M→Apart (r i) vb
 apC : ∀i,i<M→Apart (r i) vc
 apBC:Apart vb vc
section
variable {K M N base:Nat} {w w' w1:World} {va vb vc v':Value} {Ln:Nat→Nat} {r:Nat→Value} {XA:Nat→Nat→RatD} {XB XC X':Nat→RatD} {A:Nat→Nat→Rat} {B C f':Nat→Rat}
theorem StdO.below(h:StdO K w base va vb vc M Ln N r XA XB XC A B C)(hb:Below w.heap.size w w'):StdO K w' base va vb vc M Ln N r XA XB XC A B C :=
 ⟨h.tab.below hb,fun i hi=>(h.rows i hi).below hb,fun i hi j hj=>(h.rowE i hi j hj).below hb,h.rb.below hb,fun i hi=>(h.rbE i hi).below hb,h.rc.below hb,fun j hj=>(h.rcE j hj).below hb,h.apR,h.apB,h.apC,h.apBC⟩
theorem OwnR.inside(h:OwnR w base v' N X') : ∀g,v'.ownBlock=some g→g<w.heap.size:=fun g e=>(OwnN.inside h e).2
theorem StdO.appC(h:StdO K w base va vb vc M Ln N r XA XB XC A B C)(hg:Grew w w' vc v')(hf:Fz base 36 w w') {N':Nat}(ho:OwnR w' base v' N' X')(hE : ∀j,j<N'→EQ true K w' (X' j).val (f' j)) :
 StdO K w' base va vb v' M Ln N' r XA XB X' A B f' :=
 ⟨OwnN.fz h.tab hf jpu1,fun i hi=>OwnN.grew (h.rows i hi) hg (h.apC i hi).symm,fun i hi j hj=>(h.rowE i hi j hj).kp hf.keep,OwnN.grew h.rb hg h.apBC.symm,fun i hi=>(h.rbE i hi).kp hf.keep,ho,hE,
  h.apR,h.apB,fun i hi=>((h.apC i hi).symm.grew hg (h.rows i hi).inside).symm,(h.apBC.symm.grew hg h.rb.inside).symm⟩
theorem StdO.appA {ga ca i n':Nat}(h:StdO K w base (.slice (some ⟨ga,0,none⟩) M ca) vb vc M Ln N r XA XB XC A B C)(hi:i<M)(hg:Grew w w1 (r i) v')(hf:Fz base 36 w w1)(ho:OwnR w1 base v' n' X')(hE : ∀j,j<n'→EQ true K w1 (X' j).val (f' j))(hv:Nu v')(hw:w'=w1.setCell ⟨ga,i,none⟩ v') :
 StdO K w' base (.slice (some ⟨ga,0,none⟩) M ca) vb vc M (updR Ln i n') N (updR r i v') (updR XA i X') XB XC (updR A i f') B C∧Below base w w':=by
 have ht:OwnT w1 base (.slice (some ⟨ga,0,none⟩) M ca) M r:=OwnN.fz h.tab hf jpu1
 obtain⟨s1,s2,s3⟩:=OwnT.set1 ht hi hv hw
 have frz : ∀ {v:Value} {n:Nat} {X:Nat→RatD},OwnR w1 base v n X→OwnR w' base v n X:=fun h=>OwnN.fz h s2 jpu1
 have hap : ∀j,j<M→j≠i→Apart v' (r j):=fun j hj hne=>(h.apR i j hi hj (fun e=>hne e.symm)).grew hg (h.rows j hj).inside
 refine⟨⟨s1,fun j hj=>?_,fun j hj q hq=>?_,frz (OwnN.grew h.rb hg (h.apB i hi)),fun j hj=>((h.rbE j hj).kp hf.keep).kp s2.keep,frz (OwnN.grew h.rc hg (h.apC i hi)),fun j hj=>((h.rcE j hj).kp hf.keep).kp s2.keep,fun a b ha hb hab=>?_,fun j hj=>?_,fun j hj=>?_,h.apBC⟩,hf.below.trans s2.below⟩
 ·by_cases e:j=i
  ·subst e;rw [updR_at,updR_at,updR_at];exact frz ho
  ·rw [updR_ne _ _ e,updR_ne _ _ e,updR_ne _ _ e];exact frz (OwnN.grew (h.rows j hj) hg (h.apR i j hi hj (fun e'=>e e'.symm)))
 ·by_cases e:j=i
  ·subst e;rw [updR_at] at hq;rw [updR_at,updR_at];exact(hE q hq).kp s2.keep
  ·rw [updR_ne _ _ e] at hq;rw [updR_ne _ _ e,updR_ne _ _ e];exact((h.rowE j hj q hq).kp hf.keep).kp s2.keep
 ·by_cases ea:a=i
  ·subst ea
   rw [updR_at,updR_ne _ _ (fun e=>hab e.symm)]
   exact hap b hb (fun e=>hab e.symm)
  ·by_cases eb:b=i
   ·subst eb
    rw [updR_at,updR_ne _ _ ea]
    exact(hap a ha ea).symm
   ·rw [updR_ne _ _ ea,updR_ne _ _ eb];exact h.apR a b ha hb hab
 ·by_cases e:j=i
  ·subst e;rw [updR_at];exact(h.apB j hi).grew hg h.rb.inside
  ·rw [updR_ne _ _ e];exact h.apB j hj
 ·by_cases e:j=i
  ·subst e;rw [updR_at];exact(h.apC j hi).grew hg h.rc.inside
  ·rw [updR_ne _ _ e];exact h.apC j hj
theorem grew_set4 {g a b c d n m:Nat} {x0 x1 x2 x3:Value}(hw:w'=(((w.setCell ⟨g,a,none⟩ x0).setCell ⟨g,b,none⟩ x1).setCell ⟨g,c,none⟩ x2).setCell ⟨g,d,none⟩ x3):Grew w w' (.slice (some ⟨g,0,none⟩) n m) (.slice (some ⟨g,0,none⟩) n m):=by
 subst hw
 refine⟨⟨rfl,rfl,rfl,by simp [World.setCell],fun k hk hne=>?_⟩,.inl rfl⟩
 have hk':k≠g:=fun e=>hne (by rw [e];rfl)
 exact(heap_setCell_other _ ⟨g,d,none⟩ k x3 hk').trans ((heap_setCell_other _ ⟨g,c,none⟩ k x2 hk').trans ((heap_setCell_other _ ⟨g,b,none⟩ k x1 hk').trans (heap_setCell_other _ ⟨g,a,none⟩ k x0 hk')))
theorem StdO.setB {gb cb i:Nat}(h:StdO K w base va (.slice (some ⟨gb,0,none⟩) M cb) vc M Ln N r XA XB XC A B C)(hi:i<M)(x:RatD) {q:Rat}(hE:EQ true K w x.val q)(hw:w'=(((w.setCell ⟨gb,i*4,none⟩ (.bool x.b)).setCell ⟨gb,i*4+1,none⟩ (.slice x.A x.n x.c)).setCell ⟨gb,i*4+2,none⟩ (.bool x.b')).setCell ⟨gb,i*4+3,none⟩ (.slice x.A' x.n' x.c')) :
 StdO K w' base va (.slice (some ⟨gb,0,none⟩) M cb) vc M Ln N r XA (updR XB i x) XC A (updR B i q) C∧Fz base 36 w w':=by
 obtain⟨s1,s2,s3⟩:=OwnR.set4 h.rb hi x hw
 have hg:=grew_set4 (w:=w) (n:=M) (m:=cb) hw
 refine⟨⟨OwnN.fz h.tab s2 jpu1,fun j hj=>OwnN.grew (h.rows j hj) hg (h.apB j hj).symm,fun j hj l hl=>(h.rowE j hj l hl).kp s2.keep,s1,fun j hj=>?_,OwnN.grew h.rc hg h.apBC,fun j hj=>(h.rcE j hj).kp s2.keep,h.apR,h.apB,h.apC,h.apBC⟩,s2⟩
 by_cases e:j=i
 ·subst e;rw [updR_at,updR_at];exact hE.kp s2.keep
 ·rw [updR_ne _ _ e,updR_ne _ _ e];exact(h.rbE j hj).kp s2.keep
theorem StdO.setA {gr cr i l:Nat}(h:StdO K w base va vb vc M Ln N r XA XB XC A B C)(hi:i<M)(hr:r i = .slice (some ⟨gr,0,none⟩) (Ln i) cr)(hl:l<Ln i)(x:RatD) {q:Rat}(hE:EQ true K w x.val q)(hw:w'=(((w.setCell ⟨gr,l*4,none⟩ (.bool x.b)).setCell ⟨gr,l*4+1,none⟩ (.slice x.A x.n x.c)).setCell ⟨gr,l*4+2,none⟩ (.bool x.b')).setCell ⟨gr,l*4+3,none⟩ (.slice x.A' x.n' x.c')) :
 StdO K w' base va vb vc M Ln N r (updR XA i (updR (XA i) l x)) XB XC (updR A i (updR (A i) l q)) B C∧Fz base 36 w w':=by
 have ho:=h.rows i hi
 rw [hr] at ho
 obtain⟨s1,s2,s3⟩:=OwnR.set4 ho hl x hw
 have hg:=grew_set4 (w:=w) (n:=Ln i) (m:=cr) hw
 rw [← hr] at hg s1
 refine⟨⟨OwnN.fz h.tab s2 jpu1,fun j hj=>?_,fun j hj m hm=>?_,OwnN.grew h.rb hg (h.apB i hi),fun j hj=>(h.rbE j hj).kp s2.keep,OwnN.grew h.rc hg (h.apC i hi),fun j hj=>(h.rcE j hj).kp s2.keep,h.apR,h.apB,h.apC,h.apBC⟩,s2⟩
 ·by_cases e:j=i
  ·subst e;rw [updR_at];exact s1
  ·rw [updR_ne _ _ e];exact OwnN.grew (h.rows j hj) hg (h.apR i j hi hj (fun e'=>e e'.symm))
 ·by_cases e:j=i
  ·subst e
   rw [updR_at,updR_at]
   by_cases e2:m=l
   ·subst e2;rw [updR_at,updR_at];exact hE.kp s2.keep
   ·rw [updR_ne _ _ e2,updR_ne _ _ e2];exact(h.rowE j hj m hm).kp s2.keep
  ·rw [updR_ne _ _ e,updR_ne _ _ e];exact(h.rowE j hj m hm).kp s2.keep
theorem StdO.congr {A':Nat→Nat→Rat} {B' C':Nat→Rat}(h:StdO K w base va vb vc M Ln N r XA XB XC A B C)(hA : ∀i,i<M→∀j,j<Ln i→A i j=A' i j)(hB : ∀i,i<M→B i=B' i)(hC : ∀j,j<N→C j=C' j):StdO K w base va vb vc M Ln N r XA XB XC A' B' C' :=
 ⟨h.tab,h.rows,fun i hi j hj=>hA i hi j hj▸h.rowE i hi j hj,h.rb,fun i hi=>hB i hi▸h.rbE i hi,h.rc,fun j hj=>hC j hj▸h.rcE j hj,h.apR,h.apB,h.apC,h.apBC⟩
theorem StdO.congrL {Ln':Nat→Nat}(h:StdO K w base va vb vc M Ln N r XA XB XC A B C)(hL : ∀i,i<M→Ln i=Ln' i):StdO K w base va vb vc M Ln' N r XA XB XC A B C :=
 ⟨h.tab,fun i hi=>hL i hi▸h.rows i hi,fun i hi j hj=>h.rowE i hi j (by rw [hL i hi];exact hj),h.rb,h.rbE,h.rc,h.rcE,h.apR,h.apB,h.apC,h.apBC⟩
theorem StdO.stdQ(h:StdO K w base va vb vc M (fun _=>N) N r XA XB XC A B C)(hM:M≤1000000)(hN:N≤1000000):StdQ true K w (.agg #[va,vb,vc]) M N A B C :=
 ⟨va,vb,vc,rfl,h.tab.tabQ hM fun i hi=>(h.rows i hi).rowT hN (h.rowE i hi),(h.rb.rowT hM h.rbE).rowQ,(h.rc.rowT hN h.rcE).rowQ⟩
theorem StdO.alloc_(h:StdO K w base va vb vc M Ln N r XA XB XC A B C)(o:Obj):StdO K (w.alloc o) base va vb vc M Ln N r XA XB XC A B C:=h.below (below_new w o)
end
def sgnQ(b:Rat):Rat:=if b<0 then -1 else 1
theorem sgnQ_neg {b:Rat}(h:b<0)(x:Rat):sgnQ b*x = -x:=by unfold sgnQ;rw [if_pos h,Rat.neg_mul,Rat.one_mul]
theorem sgnQ_pos {b:Rat}(h : ¬b<0)(x:Rat):sgnQ b*x=x:=by unfold sgnQ;rw [if_neg h,Rat.one_mul]
end Go.Proofs.YtgilnmhejjpleaaGreat
namespace Go.Proofs.YtgilnmhejjpleaaGreat
open Go.RowKit
attribute [local go_sem ↓] Go.wp_at_zero Go.wp_at_succ
set_option linter.unusedVariables false
set_option linter.unusedSimpArgs false
def Ro(w W:World):Prop := ∀ (k:Nat) (o:Obj),w.heap[k]? = some o→(∀cs m,o≠ .cells cs 36 m)→W.heap[k]? = some o
structure Bo (base:Nat) (w W:World):Prop where
 below:Below base w W
 ro:Ro w W
section
variable {base:Nat} {w W W':World}
theorem Bo.tb(h:Bo base w W)(hb:Below W.heap.size W W')(hbase:base≤w.heap.size):Bo base w W':=⟨h.below.trans (hb.mono (by have:=h.below.size;omega)),fun k o e ho=>(hb.block k (Array.getElem?_eq_some_iff.1 (h.ro k o e ho)).1).trans (h.ro k o e ho)⟩
theorem Bo.tf(h:Bo base w W)(hf:Fz base 36 W W'):Bo base w W':=⟨h.below.trans hf.below,fun k o e ho=>hf.other k o (h.ro k o e ho) ho⟩
theorem Bo.refl:Bo base w w:=⟨Below.refl _ _,fun _ _ e _=>e⟩
theorem Bo.blk {g:Nat} {t:TypeId} {cs:Array Value}(h:Bo base w W)(hb:Blk w g t cs)(ht:t≠36):Blk W g t cs:=h.ro _ _ hb fun cs' m e=>by injection e with _ e _;exact ht e
end
set_option maxRecDepth 100000 in
set_option maxHeartbeats 8000000 in
theorem pturn {K M N base ga ca cb cc:Nat} {Ab Ac:Option Addr} {w:World} {r:Nat→Value} {XA0:Nat→Nat→RatD} {XB0 XC:Nat→RatD} {A:Nat→Nat→Rat} {B C:Nat→Rat}(h:StdO K w base (.slice (some ⟨ga,0,none⟩) M ca) (.slice Ab M cb) (.slice Ac N cc) M (fun _=>N) N r XA0 XB0 XC A B C)(hbase:base≤w.heap.size)(hk:K≤20000)(h1:1≤K)(hM:M≤1000)(hN:N≤1000) :
 Calls Tryz.prog 39 #[(.agg #[.slice (some ⟨ga,0,none⟩) M ca,.slice Ab M cb,.slice Ac N cc])] w fun e w'=>(∃v,e = .returned v)∧(∃XA XB,StdO K w' base (.slice (some ⟨ga,0,none⟩) M ca) (.slice Ab M cb) (.slice Ac N cc) M (fun _=>N) N r XA XB XC (fun q l=>sgnQ (B q)*A q l) (fun q=>sgnQ (B q)*B q) C)∧Bo base w w':=by
 have HS:=Lib.hid h
 clear h
 have hgaw:ga<w.heap.size:=OwnT.lt HS.out.tab
 go_enter Tryz.func39,Tryz.ntmps39
 go_wp2
 have HI0:Hid ((∃XA XB,StdO K (w.alloc (.cells #[.slice (some ⟨ga,0,none⟩) M ca,.slice Ab M cb,.slice Ac N cc] 31)) base (.slice (some ⟨ga,0,none⟩) M ca) (.slice Ab M cb) (.slice Ac N cc) M (fun _=>N) N r XA XB XC (fun q l=>if q<0 then sgnQ (B q)*A q l else A q l) (fun q=>if q<0 then sgnQ (B q)*B q else B q) C)∧Bo base w (w.alloc (.cells #[.slice (some ⟨ga,0,none⟩) M ca,.slice Ab M cb,.slice Ac N cc] 31))∧Blk (w.alloc (.cells #[.slice (some ⟨ga,0,none⟩) M ca,.slice Ab M cb,.slice Ac N cc] 31)) w.heap.size 31 #[.slice (some ⟨ga,0,none⟩) M ca,.slice Ab M cb,.slice Ac N cc]):=⟨⟨_,_,(HS.out.alloc_ _).congr (fun q _ l _=>by rw [if_neg j0i3]) (fun q _=>by rw [if_neg j0i3]) (fun _ _=>rfl)⟩,Bo.refl.tb (below_new _ _) hbase,Blk.new _ _ rfl _ _⟩
 generalize w.alloc (.cells #[.slice (some ⟨ga,0,none⟩) M ca,.slice Ab M cb,.slice Ac N cc] 31)=w1 at *
 go_loopw [9] (fun v9 wr => ∃ (i:Nat),v9 = .int .i64 (i:Nat)∧i≤M∧(∃XA XB,StdO K wr base (.slice (some ⟨ga,0,none⟩) M ca) (.slice Ab M cb) (.slice Ac N cc) M (fun _=>N) N r XA XB XC (fun q l=>if q<i then sgnQ (B q)*A q l else A q l) (fun q=>if q<i then sgnQ (B q)*B q else B q) C)∧Bo base w wr∧Blk wr w.heap.size 31 #[.slice (some ⟨ga,0,none⟩) M ca,.slice Ab M cb,.slice Ac N cc]) (fun v9 _=>M - (intOf v9).toNat)
 case atStart=>exact⟨0,rfl,Nat.zero_le _,HI0.out⟩
 case round =>
  clear HI0
  obtain⟨i,rfl,hi,⟨XA,XB,hst⟩,hbw,hks⟩:=hrel
  have HST:=Lib.hid hst
  have HB:=Lib.hid hbw
  have KS:=Lib.hid hks
  clear hst hbw hks
  by_cases hlt:i<M
  ·have hi0:(0:Int)≤(i:Int):=by omega
   have hik:(i:Int)<(M:Int) := j0i3
   obtain⟨gb,cb',e1,hgb,hcb,hcb2,hgbl⟩:=OwnN.form HST.out.rb j0i3
   simp only [Value.slice.injEq] at e1
   obtain⟨rfl,_,rfl⟩:=e1
   obtain⟨k0,k1,k2,kl⟩:=KS.out.use3
   obtain⟨⟨b9,A9,n9,c9,d9,B9,m9,k9⟩,hXB⟩ : ∃y,XB i=y:=⟨_,rfl⟩
   obtain⟨s0,s1,s2,s3,s4,s5,s6,s7,s8⟩:=HST.out.rb.spot hlt
   rw [hXB] at s1 s2 s3 s4
   have HE:Hid (EQ true K wr (.agg #[.bool b9,.slice A9 n9 c9,.bool d9,.slice B9 m9 k9]) (B i)):=by
    have:=HST.out.rbE i hlt
    rw [hXB,if_neg j0i3] at this
    exact this
   clear hXB
   have hgs:w.heap.size<wr.heap.size:=KS.out.lt
   have hne1:gb≠w.heap.size:=by
    have hh:=KS.out
    intro e
    obtain⟨_,_,cur,hc⟩:=OwnN.blk HST.out.rb
    have hc':wr.heap[gb]? = _:=hc
    rw [e] at hc'
    have hh':wr.heap[w.heap.size]? = _:=hh
    rw [hc'] at hh'
    injection hh' with hh'
    injection hh' with _ hh' _
    exact absurd hh' jpu1
   by_cases hneg:B i<0
   ·have HNG:=Lib.hid hneg
    have HDN:=Lib.hid (decide_eq_true hneg)
    clear hneg
    go_wp2_with fail
    refine Calls.mono (pbelow_is HDN.out (HE.out.2.alloc_ _) hk h1) ?_
    rintro e w4 ⟨rfl,hb⟩
    have hb':=bun hb
    have K3:=Lib.hid (show Blk w4 wr.heap.size 36 #[.bool b9,.slice A9 n9 c9,.bool d9,.slice B9 m9 k9] from(Blk.new _ _ rfl _ _).below hb)
    have HST4:=Lib.hid (HST.out.below hb')
    have KS4:=Lib.hid (KS.out.below hb')
    have HB4:=Lib.hid (HB.out.tb hb' hbase)
    have HE4:=Lib.hid (HE.out.below hb')
    have HQ4:=Lib.hid HE4.out.2
    have hz4:wr.heap.size<w4.heap.size:=K3.out.lt
    clear hb hb' HST HB KS HE s0 s1 s2 s3 s4 s5 s6 s7 s8 k0 k1 k2 kl
    obtain⟨k0,k1,k2,kl⟩:=KS4.out.use3
    obtain⟨a0,a1,a2,a3,al⟩:=K3.out.use4
    have hne2:gb≠wr.heap.size := j0i3
    have tok0:True:=trivial
    go_wp2
    go_region_held3 (fun w'=>w'.cell? ⟨w.heap.size,1,none⟩=some (.slice (some ⟨gb,0,none⟩) M cb)∧w'.cell? ⟨wr.heap.size,0,none⟩=some (.bool b9)∧w'.cell? ⟨wr.heap.size,1,none⟩=some (.slice A9 n9 c9)∧w'.cell? ⟨wr.heap.size,2,none⟩=some (.bool d9)∧w'.cell? ⟨wr.heap.size,3,none⟩=some (.slice B9 m9 k9)) (first | (refine⟨?_,?_,?_,?_,?_⟩ <;> (first | with_reducible assumption | ((with_reducible refine Eq.trans (cell_drew _ _) ?_);with_reducible assumption) | ((repeat rw [World.cell?_setCell_far _ _ _ _ (by first | exact hne1 | exact hne2)]);with_reducible assumption) | go_keep)) | go_keep)
     (first
      |(go_at_call 72;have _t:=tok0;clear _t tok0;((with_reducible refine Calls.mono (popp HQ4.out.drew_ hk h1) ?_));rintro e w5 ⟨v,rfl,h,hb⟩;obtain⟨b5,A5,n5,c5,d5,B5,m5,k5,rfl,-,-,-,-,-⟩:=h.form;have hBw:=(show Below w4.heap.size w4 w5 from jc22);have HE5:=Lib.hid (EQ.of (p:=true) h (HQ4.out.bq h1).neg);have K35:=Lib.hid (K3.out.below hBw);have KS5:=Lib.hid (KS4.out.below hBw);have HST5:=Lib.hid (HST4.out.below hBw);have HB5:=Lib.hid (HB4.out.tb hBw hbase);obtain⟨q0,q1,q2,ql⟩:=KS5.out.use3;obtain⟨z0,z1,z2,z3,zl⟩:=K35.out.use4;obtain⟨s0,s1,s2,s3,s4,s5,s6,s7,s8⟩:=HST5.out.rb.spot hlt;clear h hb hBw HST4 HB4 KS4 HE4 HQ4 K3 k0 k1 k2 kl a0 a1 a2 a3 al))
    obtain⟨w6,hW⟩ : ∃W,W=((((w5.setCell ⟨gb,i*4,none⟩ (.bool b5)).setCell ⟨gb,i*4+1,none⟩ (.slice A5 n5 c5)).setCell ⟨gb,i*4+2,none⟩ (.bool d5)).setCell ⟨gb,i*4+3,none⟩ (.slice B5 m5 k5)):=⟨_,rfl⟩
    rw [← hW]
    obtain⟨g1,g2⟩:=HST5.out.setB hlt ⟨b5,A5,n5,c5,d5,B5,m5,k5⟩ HE5.out hW
    have KS6:=Lib.hid (KS5.out.fz g2 jpu1)
    have HB6:=Lib.hid (HB5.out.tf g2)
    have HT6:=Lib.hid g1
    clear hW g1 g2 HST5 HB5 KS5 K35 HE5 q0 q1 q2 ql z0 z1 z2 z3 zl s0 s1 s2 s3 s4 s5 s6 s7 s8
    obtain⟨k0,k1,k2,kl⟩:=KS6.out.use3
    obtain⟨Ar,cr,er,_⟩:=(HT6.out.rows i hlt).rowAt
    have ht:=OwnT.at_ HT6.out.tab hlt
    rw [er] at ht
    have hgal:=OwnT.lt HT6.out.tab
    have HI1:Hid ((∃XA XB,StdO K w6 base (.slice (some ⟨ga,0,none⟩) M ca) (.slice (some ⟨gb,0,none⟩) M cb) (.slice Ac N cc) M (fun _=>N) N r XA XB XC (fun q l=>if q<i∨(q=i∧l<0) then sgnQ (B q)*A q l else A q l) (fun q=>if q<i+1 then sgnQ (B q)*B q else B q) C)∧Bo base w w6∧Blk w6 w.heap.size 31 #[.slice (some ⟨ga,0,none⟩) M ca,.slice (some ⟨gb,0,none⟩) M cb,.slice Ac N cc]):=⟨⟨_,_,HT6.out.congr (fun q hq l _=>by
     by_cases e:q<i
     ·rw [if_pos e,if_pos (.inl e)]
     ·rw [if_neg e,if_neg (fun h=>h.elim e (fun h=>absurd h.2 j0i3))]) (fun q hq=>by
     by_cases e:q=i
     ·subst e;rw [updR_at,if_pos j0i3,sgnQ_neg HNG.out]
     ·rw [updR_ne _ _ e]
      by_cases e2:q<i
      ·rw [if_pos e2,if_pos j0i3]
      ·rw [if_neg e2,if_neg j0i3]) (fun _ _=>rfl)⟩,HB6.out,KS6.out⟩
    have HER:=Lib.hid er
    clear er HT6 HB6 KS6
    go_wp2
    go_loopw [29] (fun v29 wr => ∃ (j:Nat),v29 = .int .i64 (j:Nat)∧j≤N∧(∃XA XB,StdO K wr base (.slice (some ⟨ga,0,none⟩) M ca) (.slice (some ⟨gb,0,none⟩) M cb) (.slice Ac N cc) M (fun _=>N) N r XA XB XC (fun q l=>if q<i∨(q=i∧l<j) then sgnQ (B q)*A q l else A q l) (fun q=>if q<i+1 then sgnQ (B q)*B q else B q) C)∧Bo base w wr∧Blk wr w.heap.size 31 #[.slice (some ⟨ga,0,none⟩) M ca,.slice (some ⟨gb,0,none⟩) M cb,.slice Ac N cc]) (fun v29 _=>N - (intOf v29).toNat)
    case atStart=>exact⟨0,rfl,Nat.zero_le _,HI1.out⟩
    case round =>
     clear HI1 k0 k1 k2 kl ht hgal
     obtain⟨j,rfl,hj,⟨XA,XB,hst⟩,hbw,hks⟩:=hrel
     have HST:=Lib.hid hst
     have HB:=Lib.hid hbw
     have KS:=Lib.hid hks
     clear hst hbw hks
     by_cases hlt2:j<N
     ·have hj0:(0:Int)≤(j:Int):=by omega
      have hjk:(j:Int)<(N:Int) := j0i3
      have hro:=HST.out.rows i hlt
      rw [HER.out] at hro
      obtain⟨gr,cr',e1,hgr,hcr,hcr2,hgrl⟩:=OwnN.form hro j0i3
      simp only [Value.slice.injEq] at e1
      obtain⟨rfl,_,rfl⟩:=e1
      have HRO:=Lib.hid hro
      obtain⟨k0,k1,k2,kl⟩:=KS.out.use3
      have ht:=OwnT.at_ HST.out.tab hlt
      rw [HER.out] at ht
      have hgal:=OwnT.lt HST.out.tab
      obtain⟨⟨b8,A8,n8,c8,d8,B8,m8,k8⟩,hXA⟩ : ∃y,XA i j=y:=⟨_,rfl⟩
      obtain⟨s0,s1,s2,s3,s4,s5,s6,s7,s8⟩:=HRO.out.spot hlt2
      rw [hXA] at s1 s2 s3 s4
      have HE:Hid (EQ true K wr (.agg #[.bool b8,.slice A8 n8 c8,.bool d8,.slice B8 m8 k8]) (A i j)):=by
       have:=HST.out.rowE i hlt j hlt2
       rw [hXA,if_neg (fun h=>h.elim (fun h=>absurd h j0i3) (fun h=>absurd h.2 j0i3))] at this
       exact this
      have hgs2:w.heap.size<wr.heap.size:=KS.out.lt
      have typ : ∀ {g:Nat} {t:TypeId} {cs0 cur:Array Value} {g':Nat} {t':TypeId},Blk wr g t cs0→Blk wr g' t' cur→t≠t'→g'≠g:=fun h h' hne e=>by
       subst e
       have h2:wr.heap[_]? = _:=h
       rw [show wr.heap[_]? = _ from h'] at h2
       injection h2 with h2
       injection h2 with _ h2 _
       exact hne h2.symm
      obtain⟨_,_,curR,hcR⟩:=OwnN.blk HRO.out
      obtain⟨_,_,curT,hcT⟩:=OwnN.blk HST.out.tab
      have hne3:gr≠w.heap.size:=typ KS.out hcR jpu1
      have hne4:gr≠ga:=typ hcT hcR jpu1
      clear hXA hro typ hcR hcT
      have hne5:gr≠wr.heap.size := j0i3
      go_wp2
      obtain⟨w7,hW⟩ : ∃W,W=wr.alloc (.cells #[.bool b8,.slice A8 n8 c8,.bool d8,.slice B8 m8 k8] 36):=⟨_,rfl⟩
      rw [← hW]
      have hb7:Below wr.heap.size wr w7:=hW▸below_new _ _
      have K5:=Lib.hid (show Blk w7 wr.heap.size 36 #[.bool b8,.slice A8 n8 c8,.bool d8,.slice B8 m8 k8] from hW▸Blk.new _ _ rfl _ _)
      have HST7:=Lib.hid (HST.out.below hb7)
      have KS7:=Lib.hid (KS.out.below hb7)
      have HB7:=Lib.hid (HB.out.tb hb7 hbase)
      have HE7:=Lib.hid (HE.out.below hb7)
      have HQ7:=Lib.hid HE7.out.2
      have ht7:=(hb7.cell (p:=⟨ga,i,none⟩) hgal).trans ht
      have hgal7:=Nat.lt_of_lt_of_le hgal hb7.size
      clear hW hb7 HST HB KS HE HRO ht hgal s0 s1 s2 s3 s4 s5 s6 s7 s8 k0 k1 k2 kl
      obtain⟨k0,k1,k2,kl⟩:=KS7.out.use3
      obtain⟨a0,a1,a2,a3,al⟩:=K5.out.use4
      have tok1:True:=trivial
      go_region_held3 (fun w'=>w'.cell? ⟨w.heap.size,0,none⟩=some (.slice (some ⟨ga,0,none⟩) M ca)∧w'.cell? ⟨wr.heap.size,0,none⟩=some (.bool b8)∧w'.cell? ⟨wr.heap.size,1,none⟩=some (.slice A8 n8 c8)∧w'.cell? ⟨wr.heap.size,2,none⟩=some (.bool d8)∧w'.cell? ⟨wr.heap.size,3,none⟩=some (.slice B8 m8 k8)∧w'.cell? ⟨ga,i,none⟩=some (.slice (some ⟨gr,0,none⟩) N cr)) (first | (refine⟨?_,?_,?_,?_,?_,?_⟩ <;> (first | with_reducible assumption | ((with_reducible refine Eq.trans (cell_drew _ _) ?_);with_reducible assumption) | ((repeat rw [World.cell?_setCell_far _ _ _ _ (by first | exact hne3 | exact hne4 | exact hne5)]);with_reducible assumption) | go_keep)) | go_keep)
       (first
        |(go_at_call 72;have _t:=tok1;clear _t tok1;((with_reducible refine Calls.mono (popp HQ7.out.drew_ hk h1) ?_));rintro e w8 ⟨v,rfl,h,hb⟩;obtain⟨b5,A5,n5,c5,d5,B5,m5,k5,rfl,-,-,-,-,-⟩:=h.form;have hBw:=(show Below w7.heap.size w7 w8 from jc22);have HE8:=Lib.hid (EQ.of (p:=true) h (HQ7.out.bq h1).neg);have K58:=Lib.hid (K5.out.below hBw);have KS8:=Lib.hid (KS7.out.below hBw);have HST8:=Lib.hid (HST7.out.below hBw);have HB8:=Lib.hid (HB7.out.tb hBw hbase);have ht8:=(hBw.cell (p:=⟨ga,i,none⟩) hgal7).trans ht7;obtain⟨q0,q1,q2,ql⟩:=KS8.out.use3;obtain⟨z0,z1,z2,z3,zl⟩:=K58.out.use4;have hro8:=HST8.out.rows i hlt;rw [HER.out] at hro8;obtain⟨s0,s1,s2,s3,s4,s5,s6,s7,s8⟩:=hro8.spot hlt2;clear h hb hBw hro8 HST7 HB7 KS7 HE7 HQ7 K5 ht7 hgal7 k0 k1 k2 kl a0 a1 a2 a3 al))
      obtain⟨w9,hW⟩ : ∃W,W=((((w8.setCell ⟨gr,j*4,none⟩ (.bool b5)).setCell ⟨gr,j*4+1,none⟩ (.slice A5 n5 c5)).setCell ⟨gr,j*4+2,none⟩ (.bool d5)).setCell ⟨gr,j*4+3,none⟩ (.slice B5 m5 k5)):=⟨_,rfl⟩
      rw [← hW]
      obtain⟨g1,g2⟩:=HST8.out.setA hlt HER.out hlt2 ⟨b5,A5,n5,c5,d5,B5,m5,k5⟩ HE8.out hW
      have KS9:=Lib.hid (KS8.out.fz g2 jpu1)
      have HB9:=Lib.hid (HB8.out.tf g2)
      have HI9:Hid ((∃XA XB,StdO K w9 base (.slice (some ⟨ga,0,none⟩) M ca) (.slice (some ⟨gb,0,none⟩) M cb) (.slice Ac N cc) M (fun _=>N) N r XA XB XC (fun q l=>if q<i∨(q=i∧l<j+1) then sgnQ (B q)*A q l else A q l) (fun q=>if q<i+1 then sgnQ (B q)*B q else B q) C)∧Bo base w w9∧Blk w9 w.heap.size 31 #[.slice (some ⟨ga,0,none⟩) M ca,.slice (some ⟨gb,0,none⟩) M cb,.slice Ac N cc]):=⟨⟨_,_,g1.congr (fun q hq l hl=>by
       by_cases e:q=i
       ·subst e
        rw [updR_at]
        by_cases e2:l=j
        ·subst e2;rw [updR_at,if_pos (.inr ⟨rfl,by omega⟩),sgnQ_neg HNG.out]
        ·rw [updR_ne _ _ e2]
         by_cases e3:l<j
         ·rw [if_pos (.inr ⟨rfl,e3⟩),if_pos (.inr ⟨rfl,by omega⟩)]
         ·rw [if_neg (fun h=>h.elim (fun h=>absurd h j0i3) (fun h=>e3 h.2)),if_neg (fun h=>h.elim (fun h=>absurd h j0i3) (fun h=>absurd h.2 j0i3))]
       ·rw [updR_ne _ _ e]
        by_cases e2:q<i
        ·rw [if_pos (.inl e2),if_pos (.inl e2)]
        ·rw [if_neg (fun h=>h.elim e2 (fun h=>e h.1)),if_neg (fun h=>h.elim e2 (fun h=>e h.1))]) (fun _ _=>rfl) (fun _ _=>rfl)⟩,HB9.out,KS9.out⟩
      clear hW g1 g2 HST8 HB8 KS8 K58 HE8 ht8 KS9 HB9 q0 q1 q2 ql z0 z1 z2 z3 zl s0 s1 s2 s3 s4 s5 s6 s7 s8
      go_wp2
      go_roundw
      case rel=>exact⟨j+1,by go_num,by omega,HI9.out⟩
      case measure=>simp [intOf];omega
     ·obtain rfl:j=N:=by omega
      have HI9:Hid ((∃XA XB,StdO K wr base (.slice (some ⟨ga,0,none⟩) M ca) (.slice (some ⟨gb,0,none⟩) M cb) (.slice Ac j cc) M (fun _=>j) j r XA XB XC (fun q l=>if q<(i+1) then sgnQ (B q)*A q l else A q l) (fun q=>if q<(i+1) then sgnQ (B q)*B q else B q) C)∧Bo base w wr∧Blk wr w.heap.size 31 #[.slice (some ⟨ga,0,none⟩) M ca,.slice (some ⟨gb,0,none⟩) M cb,.slice Ac j cc]):=⟨⟨_,_,HST.out.congr (fun q hq l hl=>by
       by_cases e:q<i
       ·rw [if_pos (.inl e),if_pos j0i3]
       ·by_cases e2:q=i
        ·subst e2;rw [if_pos (.inr ⟨rfl,hl⟩),if_pos j0i3]
        ·rw [if_neg (fun h=>h.elim e (fun h=>e2 h.1)),if_neg j0i3]) (fun _ _=>rfl) (fun _ _=>rfl)⟩,HB.out,KS.out⟩
      clear HST HB KS
      go_wp2
      go_roundw
      case rel=>exact⟨i+1,by go_num,by omega,HI9.out⟩
      case measure=>simp [intOf];omega
   ·have HNG:=Lib.hid hneg
    have HDN:=Lib.hid (decide_eq_false hneg)
    clear hneg
    go_wp2_with fail
    refine Calls.mono (pbelow_is HDN.out (HE.out.2.alloc_ _) hk h1) ?_
    rintro e w4 ⟨rfl,hb⟩
    have hb':=bun hb
    have HI9:Hid ((∃XA XB,StdO K w4 base (.slice (some ⟨ga,0,none⟩) M ca) (.slice (some ⟨gb,0,none⟩) M cb) (.slice Ac N cc) M (fun _=>N) N r XA XB XC (fun q l=>if q<(i+1) then sgnQ (B q)*A q l else A q l) (fun q=>if q<(i+1) then sgnQ (B q)*B q else B q) C)∧Bo base w w4∧Blk w4 w.heap.size 31 #[.slice (some ⟨ga,0,none⟩) M ca,.slice (some ⟨gb,0,none⟩) M cb,.slice Ac N cc]):=⟨⟨_,_,(HST.out.below hb').congr (fun q hq l hl=>by
     by_cases e:q<i
     ·rw [if_pos e,if_pos j0i3]
     ·by_cases e2:q=i
      ·subst e2;rw [if_neg e,if_pos j0i3,sgnQ_pos HNG.out]
      ·rw [if_neg e,if_neg j0i3]) (fun q hq=>by
     by_cases e:q<i
     ·rw [if_pos e,if_pos j0i3]
     ·by_cases e2:q=i
      ·subst e2;rw [if_neg e,if_pos j0i3,sgnQ_pos HNG.out]
      ·rw [if_neg e,if_neg j0i3]) (fun _ _=>rfl)⟩,HB.out.tb hb' hbase,KS.out.below hb'⟩
    clear hb hb' HST HB KS HE s0 s1 s2 s3 s4 s5 s6 s7 s8 k0 k1 k2 kl
    go_wp2
    go_roundw
    case rel=>exact⟨i+1,by go_num,by omega,HI9.out⟩
    case measure=>simp [intOf];omega
  ·obtain rfl:i=M:=by omega
   go_wp2
   go_end0
   exact⟨⟨_,rfl⟩,⟨XA,XB,HST.out.congr (fun q hq l _=>by rw [if_pos hq]) (fun q hq=>by rw [if_pos hq]) (fun _ _=>rfl)⟩,HB.out⟩
end Go.Proofs.YtgilnmhejjpleaaGreat
