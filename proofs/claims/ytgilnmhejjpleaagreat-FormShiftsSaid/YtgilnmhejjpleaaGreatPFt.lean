/- Contract of prob: Standard. -/
import Derived.Test.YtgilnmhejjpleaaGreatPMin
import Derived.Test.YtgilnmhejjpleaaGreatPFm
import Derived.Test.YtgilnmhejjpleaaGreatPFs
namespace Go.Proofs.YtgilnmhejjpleaaGreat
open Go.RowKit Go.Shelf
set_option linter.unusedSimpArgs false
set_option linter.unusedVariables false
attribute [local go_sem] Oper.semAt_some
theorem jbry {P:Prop}(h:P:=by first | exact hm1 | exact hm2 | exact hm3 | exact hm4):P:=h
theorem jck0 {P:Prop}(h:P:=by first | exact hgg | exact hne | exact hn1 | exact hn2 | exact hn3):P:=h
theorem jhvh {P:Prop}(h:P:=by have := HGS.out; have := HB1.out.size; simp; omega):P:=h
theorem jov6 {P:Prop}(h:P:=by have := HB5.out.size; simp; omega):P:=h
theorem js7b {P:Prop}(h:P:=by first | exact hgg | exact hne):P:=h
theorem jtj1 {P:Prop}(h:P:=by rintro ⟨a, w, h⟩; exact h):P:=h
theorem j3k1 {P:Prop}(h:P:=by (try dsimp only); (first | (and_intros <;> (first | with_reducible assumption | ((with_reducible refine Eq.trans (cell_drew _ _) ?_); with_reducible assumption) | ((repeat rw [World.cell?_setCell_far _ _ _ _ js7b]); with_reducible assumption) | go_keep)) | go_keep)):P:=h
theorem jypa {P:Prop}(h:P:=by (try dsimp only); (first | (and_intros <;> (first | with_reducible assumption | ((with_reducible refine Eq.trans (cell_drew _ _) ?_); with_reducible assumption) | ((repeat rw [World.cell?_setCell_far _ _ _ _ jbry]); with_reducible assumption) | go_keep)) | go_keep)):P:=h
theorem jz4y {P:Prop}(h:P:=by (try dsimp only); (first | (and_intros <;> (first | with_reducible assumption | ((with_reducible refine Eq.trans (cell_drew _ _) ?_); with_reducible assumption) | ((repeat rw [World.cell?_setCell_far _ _ _ _ jck0]); with_reducible assumption) | go_keep)) | go_keep)):P:=h
def St3(V V':World):Prop := ∀ (k:Nat) (o:Obj),V.heap[k]? = some o→(∀cs m,o≠ .cells cs 36 m∧o≠ .cells cs 22 m∧o≠ .cells cs 31 m)→V'.heap[k]? = some o
section
variable {V V' V'' w w':World} {base:Nat} {l:Nat} {rl:Loop}
theorem St3.trans(h:St3 V V')(h':St3 V' V''):St3 V V'':=fun k o e ho=>h' k o (h k o e ho) ho
theorem St3.of_below(h:Below V.heap.size V V'):St3 V V':=fun k o e _=>(h.block k (Array.getElem?_eq_some_iff.1 e).1).trans e
theorem St3.rat(h:Fz base 36 V V'):St3 V V':=fun k o e ho=>h.other k o e fun cs m=>(ho cs m).1
theorem St3.row(h:Fz base 22 V V'):St3 V V':=fun k o e ho=>h.other k o e fun cs m=>(ho cs m).2.1
theorem St3.std {g i:Nat} {cs:Array Value} {v:Value}(h:Blk V g 31 cs)(hW:V'=V.setCell ⟨g,i,none⟩ v):St3 V V':=fun k o e ho=>by
 subst hW
 have hk:k≠g:=fun e2=>by
  subst e2
  rw [show V.heap[k]? = _ from h] at e
  injection e with e
  exact(ho cs (0,0)).2.2 e.symm
 exact(heap_setCell_other V ⟨g,i,none⟩ k v hk).trans e
theorem St3.blk {g:Nat} {t:TypeId} {cs:Array Value}(h:St3 V V')(hb:Blk V g t cs)(h1:t≠36)(h2:t≠22)(h3:t≠31):Blk V' g t cs :=
 h _ _ hb fun cs' m=>⟨fun e=>by injection e with _ e _;exact h1 e,fun e=>by injection e with _ e _;exact h2 e,fun e=>by injection e with _ e _;exact h3 e⟩
theorem St3.kpI(h:St3 V V'):KpI V V':=fun g cs m e=>h g _ e fun cs' m'=>⟨fun e=>by injection e with _ e _;exact absurd e jpu1,fun e=>by injection e with _ e _;exact absurd e jpu1,fun e=>by injection e with _ e _;exact absurd e jpu1⟩
theorem St3.def_ {k:Nat} {d}(h:St3 V V')(e:V.heap[k]? = some (.deferred d)):V'.heap[k]? = V.heap[k]? := (h k _ e fun cs m=>⟨fun e => j4vm,fun e => j4vm,fun e => j4vm⟩).trans e.symm
theorem St3.loop_ {k:Nat} {d}(h:St3 V V')(e:V.heap[k]? = some (.loop d)):V'.heap[k]? = V.heap[k]? := (h k _ e fun cs m=>⟨fun e => j4vm,fun e => j4vm,fun e => j4vm⟩).trans e.symm
theorem kp_put(hl:V.heap[l]? = some (.loop rl))(o:Obj):Kp V (V.putObj l o):=⟨by simp,fun a z e=>by
 refine(World.cell?_of_block (World.putObj_heap_other fun e2=>?_)).trans e
 rw [World.cell?,e2,hl] at e
 cases e⟩
theorem OwnN.put(hl:V.heap[l]? = some (.loop rl))(o:Obj) {t:TypeId} {z n:Nat} {v:Value} {xs:List Value}(h:OwnN V base t z v n xs):OwnN (V.putObj l o) base t z v n xs:=by
 refine⟨h.1,?_⟩
 rcases h.2 with h | ⟨g,cap,cur,h1,h2,h3,h4⟩
 ·exact .inl h
 ·exact .inr ⟨g,cap,cur,h1,h2,put_other hl o h3,h4⟩
theorem StdO.put(hl:V.heap[l]? = some (.loop rl))(o:Obj) {K M N:Nat} {va vb vc:Value} {Ln:Nat→Nat} {r:Nat→Value} {XA:Nat→Nat→RatD} {XB XC:Nat→RatD} {A:Nat→Nat→Rat} {B C:Nat→Rat}(h:StdO K V base va vb vc M Ln N r XA XB XC A B C):StdO K (V.putObj l o) base va vb vc M Ln N r XA XB XC A B C :=
 have hk:=kp_put hl o
 ⟨OwnN.put hl o h.tab,fun i hi=>OwnN.put hl o (h.rows i hi),fun i hi j hj=>(h.rowE i hi j hj).kp hk,OwnN.put hl o h.rb,fun i hi=>(h.rbE i hi).kp hk,OwnN.put hl o h.rc,fun j hj=>(h.rcE j hj).kp hk,h.apR,h.apB,h.apC,h.apBC⟩
theorem kpI_put(hl:V.heap[l]? = some (.loop rl))(o:Obj):KpI V (V.putObj l o):=fun g cs m e=>put_other hl o e
end
theorem colP_snoc {pre:List ColX} {x:ColX} {j:Nat}(h:j<pre.length):(pre ++ [x])[j]?.getD ⟨-1,-1,0⟩=pre[j]?.getD ⟨-1,-1,0⟩:=by rw [List.getElem?_append_left h]
theorem colP_last {pre:List ColX} {x:ColX} : (pre ++ [x])[pre.length]?.getD ⟨-1,-1,0⟩=x:=by simp
def StdI(K:Nat)(p:LpX)(w1:World)(ga ca:Nat)(vb:Value)(gs Bs:Nat)(vp:Array Value)(pre:List ColX)(V:World):Prop :=
 ∃r XA XB XC Ac cc,StdO K V w1.heap.size (.slice (some ⟨ga,0,none⟩) (rowsC p) ca) vb (.slice Ac pre.length cc) (rowsC p) (fun _=>pre.length) pre.length r XA XB XC (fun i j=>inF p (pre[j]?.getD ⟨-1,-1,0⟩) i) (heldF p) (fun j=>costF p (pre[j]?.getD ⟨-1,-1,0⟩))∧
  Blk V gs 31 #[.slice (some ⟨ga,0,none⟩) (rowsC p) ca,vb,.slice Ac pre.length cc]∧Blk V Bs 26 vp∧Below w1.heap.size w1 V
theorem StdI.below {K:Nat} {p:LpX} {w1:World} {ga ca gs Bs:Nat} {vb:Value} {vp:Array Value} {pre:List ColX} {V V':World}(h:StdI K p w1 ga ca vb gs Bs vp pre V)(hb:Below V.heap.size V V'):StdI K p w1 ga ca vb gs Bs vp pre V':=by
 obtain⟨r,XA,XB,XC,Ac,cc,h1,h2,h3,h4⟩:=h
 exact⟨r,XA,XB,XC,Ac,cc,h1.below hb,h2.below hb,h3.below hb,h4.trans (hb.mono h4.size)⟩
theorem StdI.put {K:Nat} {p:LpX} {w1:World} {ga ca gs Bs l:Nat} {vb:Value} {vp:Array Value} {pre:List ColX} {V:World} {rl:Loop}(hl:V.heap[l]? = some (.loop rl))(o:Obj)(hw:w1.heap.size≤l)(h:StdI K p w1 ga ca vb gs Bs vp pre V):StdI K p w1 ga ca vb gs Bs vp pre (V.putObj l o):=by
 obtain⟨r,XA,XB,XC,Ac,cc,h1,h2,h3,h4⟩:=h
 exact⟨r,XA,XB,XC,Ac,cc,h1.put hl o,put_other hl o h2,put_other hl o h3,put_belowW o hw h4⟩
theorem region_cut {F:Fence} {n:Nat} {P:Program} {c:Code} {K:Act→World→Prop} {Q:Exit→Act→World→Prop} {a:Act} {w:World}(KK:Act→Act→World→Prop)(h:c.wpIn F n P (Exit.then (KK a) Q) a w)(hk : ∀a' w',KK a a' w'→K a' w'):c.wpIn F n P (Exit.then K Q) a w :=
 wpIn_mono h fun e a' w' hq=>by
  cases e with
  |normal=>exact hk _ _ hq
  | _=>exact hq
theorem region_cut_f {F:Fence} {n:Nat} {P:Program} {c:Code} {K:Act→World→Prop} {Q:Exit→Act→World→Prop} {a:Act} {w:World}(KK:Act→Act→World→Prop)(h:c.wpIn F n P (Exit.then (KK a) (fun _ _ _=>False)) a w)(hk : ∀a' w',KK a a' w'→K a' w'):c.wpIn F n P (Exit.then K Q) a w :=
 wpIn_mono h fun e a' w' hq=>by
  cases e with
  |normal=>exact hk _ _ hq
  | _=>exact hq.elim
def Lo(base:Nat)(w W:World):Prop:=Kp w W∧W.heap.size=w.heap.size∧∀k,base≤k→W.heap[k]? = w.heap[k]?
theorem Lo.trans {base:Nat} {w W V:World}(h:Lo base w W)(h':Lo base W V):Lo base w V:=⟨h.1.trans h'.1,h'.2.1.trans h.2.1,fun k hk=>(h'.2.2 k hk).trans (h.2.2 k hk)⟩
theorem lo_drew {base:Nat} {w:World} : Lo base w w.drew:=⟨⟨Nat.le_refl _,fun _ _ h=>h⟩,rfl,fun _ _=>rfl⟩
theorem Lo.own {base z n:Nat} {w W:World} {t:TypeId} {v:Value} {xs:List Value}(h:Lo base w W)(ho:OwnN w base t z v n xs):OwnN W base t z v n xs:=by
 refine⟨ho.1,?_⟩
 rcases ho.2 with h' | ⟨g,cap,cur,h1,h2,h3,h4⟩
 ·exact .inl h'
 ·exact .inr ⟨g,cap,cur,h1,h2,(h.2.2 g h2).trans h3,h4⟩
theorem Lo.std {base K M N:Nat} {w W:World} {va vb vc:Value} {Ln:Nat→Nat} {r:Nat→Value} {XA:Nat→Nat→RatD} {XB XC:Nat→RatD} {A:Nat→Nat→Rat} {B C:Nat→Rat}(hl:Lo base w W)(h:StdO K w base va vb vc M Ln N r XA XB XC A B C):StdO K W base va vb vc M Ln N r XA XB XC A B C :=
 ⟨hl.own h.tab,fun i hi=>hl.own (h.rows i hi),fun i hi j hj=>(h.rowE i hi j hj).kp hl.1,hl.own h.rb,fun i hi=>(h.rbE i hi).kp hl.1,hl.own h.rc,fun j hj=>(h.rcE j hj).kp hl.1,h.apR,h.apB,h.apC,h.apBC⟩
theorem region_cut_b {F:Fence} {n id:Nat} {P:Program} {c:Code} {K:Act→World→Prop} {Q:Exit→Act→World→Prop} {a:Act} {w:World}(KK:Act→Act→World→Prop)(h:c.wpIn F n P (Exit.inBlock id (Exit.then (KK a) Q)) a w)(hk : ∀a' w',KK a a' w'→K a' w'):c.wpIn F n P (Exit.inBlock id (Exit.then K Q)) a w :=
 wpIn_mono h fun e a' w' hq=>by
  have key : ∀e a' w',Exit.then (KK a) Q e a' w'→Exit.then K Q e a' w':=fun e a' w' hq=>by
   cases e with
   |normal=>exact hk _ _ hq
   | _=>exact hq
  unfold Exit.inBlock at *
  split at hq <;> (try split at hq) <;> (try split) <;> first | exact key _ _ _ hq | simp_all
theorem fz_cell {w:World} {base g i:Nat} {t:TypeId} {cur:Array Value} {v:Value}(h3:Blk w g t cur)(h8 : ∀u∈cur.toList,Nu u)(hb:base≤g):Fz base t w (w.setCell ⟨g,i,none⟩ v):=by
 refine⟨Below.setCell (Below.refl _ _) hb _,⟨by simp [World.setCell],fun a y e=>?_⟩,fun k o e he=>?_⟩
 ·by_cases hp:(⟨g,i,none⟩:Addr)=a
  ·subst hp
   rw [h3.cell i] at e
   exact absurd rfl (h8 _ (List.mem_of_getElem? (by rw [Array.getElem?_toList];exact e)) y)
  ·rw [World.cell?_setCell_other (w:=w) (v:=v) (a:=⟨g,i,none⟩) (b:=a) hp]
   exact e
 ·by_cases hb:k=g
  ·subst hb
   rw [show w.heap[k]? = _ from h3] at e
   injection e with e
   exact absurd e.symm (he _ _)
  ·exact(heap_setCell_other w ⟨g,i,none⟩ k v hb).trans e
theorem nu3 {a b c:Value}(ha:Nu a)(hb:Nu b)(hc:Nu c) : ∀u∈(#[a,b,c]:Array Value).toList,Nu u:=fun u hu=>by
 simp at hu
 rcases hu with rfl | rfl | rfl
 ·exact ha
 ·exact hb
 ·exact hc
theorem lo_cell {w:World} {base g i:Nat} {t:TypeId} {cur:Array Value} {v:Value}(h3:Blk w g t cur)(h8 : ∀u∈cur.toList,Nu u)(hb:g<base):Lo base w (w.setCell ⟨g,i,none⟩ v) :=
 ⟨(fz_cell (base:=0) h3 h8 (Nat.zero_le _)).keep,by simp [World.setCell],fun k hk=>heap_setCell_other w ⟨g,i,none⟩ k v (by show k≠g;omega)⟩
theorem nu4 {a b c d:Value}(ha:Nu a)(hb:Nu b)(hc:Nu c)(hd:Nu d) : ∀u∈(#[a,b,c,d]:Array Value).toList,Nu u:=fun u hu=>by
 simp at hu
 rcases hu with rfl | rfl | rfl | rfl
 ·exact ha
 ·exact hb
 ·exact hc
 ·exact hd
theorem StdO.fzS {K M N base base':Nat} {w w':World} {va vb vc:Value} {Ln:Nat→Nat} {r:Nat→Value} {XA:Nat→Nat→RatD} {XB XC:Nat→RatD} {A:Nat→Nat→Rat} {B C:Nat→Rat}(h:StdO K w base va vb vc M Ln N r XA XB XC A B C)(hf:Fz base' 31 w w'):StdO K w' base va vb vc M Ln N r XA XB XC A B C :=
 ⟨OwnN.fz h.tab hf jpu1,fun i hi=>OwnN.fz (h.rows i hi) hf jpu1,fun i hi j hj=>(h.rowE i hi j hj).kp hf.keep,OwnN.fz h.rb hf jpu1,fun i hi=>(h.rbE i hi).kp hf.keep,OwnN.fz h.rc hf jpu1,fun j hj=>(h.rcE j hj).kp hf.keep,h.apR,h.apB,h.apC,h.apBC⟩
theorem wpListIn_make_rows {F:Fence} {n0:Nat} {P:Program} {w:World} {ops:Array Oper} {rest:List Oper} {o:Oper} {a:Act} {Q:Exit→Act→World→Prop}(hP:P=Tryz.prog)(hg:o.guard=none)(l c:Operand)(hop:o.op=Op.makeSlice 29 l c)(base:Nat)
 (kl kc:IntKind) (L C:Int) (n:Nat) (hl:a.eval l = .int kl L) (hc:a.eval c = .int kc C) (hL:L=(n:Int)) (hC:C=(n:Int)) (hn:n≤1000000) (hbase:base≤w.heap.size)
 (hK : ∀w',OwnT w' base (.slice (some ⟨w.heap.size,0,none⟩) n n) n (fun _ => .slice none 0 0)→Below w.heap.size w w'→w'.heap.size=w.heap.size+1→wpListIn F n0 P ops Q rest (a.put o.dst (.slice (some ⟨w.heap.size,0,none⟩) n n)) w') :
 wpListIn F n0 P ops Q (o :: rest) a w:=by
 subst hP
 refine wpListIn_plain hg fun K hK'=>?_
 subst hL
 subst hC
 obtain⟨w',hrun,h1,h2,h3⟩:=run_make_ownN (P:=Tryz.prog) (w:=w) base 29 22 (.slice none 0 0) 1 24 Tryz.underlying29 rrow_info rfl j0i3 (fun u hu=>by simp [Value.cells] at hu;subst hu;exact nu) kl kc n j0i3 j22u hbase
 unfold Oper.wpIn
 refine⟨?_,?_⟩
 ·simp [Oper.about,hop]
 ·rw [Oper.semAt_plain F _ _ (by rw [hop];intro c hc';cases hc')]
  simp [execOp,hop,hl,hc,hrun,Result.andThen]
  refine hK' _ _ (hK _ ?_ h2 h3)
  have e:(madeCells (Value.slice none 0 0).cells (n*1)).toList=(List.range n).map (fun _ => .slice none 0 0):=by
   rw [show(Value.slice none 0 0).cells = #[.slice none 0 0] from rfl,toList_madeCells_one,Nat.mul_one]
   apply List.ext_getElem?
   intro j
   by_cases hj:j<n <;> simp [hj]
  unfold OwnT
  rw [← e]
  exact h1
theorem costF_bq {k l:Nat} {w:World} {v:Value} {p:LpX}(h:LpQ k w v p)(h1:1≤k) {x:ColX}(hv:x.v = -1∨∃j:Nat,j<p.cost.n∧x.v=(j:Nat))(hl:k≤l):BQ l (costF p x):=by
 obtain⟨_,_,_,_,_,_,hc,_⟩:=h
 unfold costF
 rcases hv with e | ⟨j,hj,e⟩
 ·rw [if_neg j0i3];exact bq_zero j0i3
 ·rw [if_pos j0i3,e];exact(hc.rowQ.bq h1 hj).more hl
theorem int_bq {u:Int}(h : -1≤u∧u≤1) {l:Nat}(hl:1≤l):BQ l (u:Rat):=by
 have h1:4294967296 ^ 1≤4294967296 ^ l:=Nat.pow_le_pow_right j0i3 hl
 refine⟨?_,?_⟩
 ·rw [Rat.num_intCast];omega
 ·rw [Rat.den_intCast];omega
theorem inF_bq {k l i:Nat} {w:World} {v:Value} {p:LpX}(h:LpQ k w v p)(h1:1≤k) {x:ColX}(hu : -1≤x.u∧x.u≤1)(hv:x.v = -1∨∃j:Nat,(i<p.m→j<(p.row i).coef.n)∧x.v=(j:Nat))(hl:k≤l):BQ l (inF p x i):=by
 obtain⟨_,_,_,_,_,_,_,hr,_⟩:=h
 unfold inF
 split
 ·exact int_bq hu j0i3
 ·split
  ·rename_i h2
   rcases hv with e | ⟨j,hj,e⟩
   ·omega
   ·obtain⟨_,_,_,_,_,_,_,hRw⟩:=hr.at_ h2.2
    rw [e]
    exact(hRw.2.2.1.rowQ.bq h1 (hj h2.2)).more hl
  ·exact bq_zero j0i3
theorem col_mem {p:LpX} {x:ColX}(h:x∈colL p):(-1≤x.u∧x.u≤1)∧(x.v = -1∨∃j:Nat,j<p.no∧x.v=(j:Nat)):=by
 have hv : ∀n,n≤p.no→∀x∈varL p n,(-1≤x.u∧x.u≤1)∧(x.v = -1∨∃j:Nat,j<p.no∧x.v=(j:Nat)):=fun n=>by
  induction n with
  |zero=>intro _ x hx;cases hx
  |succ n ih =>
   intro hn x hx
   rcases List.mem_append.1 hx with hx | hx
   ·exact ih j0i3 x hx
   ·obtain rfl:=List.mem_singleton.1 hx
    exact⟨⟨by show -1≤(1:Int);omega,by show(1:Int)≤1;omega⟩,.inr ⟨n,by omega,rfl⟩⟩
 have hs : ∀n,∀x∈slkL p n,(-1≤x.u∧x.u≤1)∧x.v = -1:=fun n=>by
  induction n with
  |zero=>intro x hx;cases hx
  |succ n ih =>
   intro x hx
   rcases List.mem_append.1 hx with hx | hx
   ·exact ih x hx
   ·split at hx
    ·cases hx
    ·obtain rfl:=List.mem_singleton.1 hx
     refine⟨?_,rfl⟩
     show -1≤slkU _∧slkU _≤1
     unfold slkU
     split <;> omega
 have he : ∀n,∀x∈endL p n,(-1≤x.u∧x.u≤1)∧x.v = -1:=fun n=>by
  induction n with
  |zero=>intro x hx;cases hx
  |succ n ih =>
   intro x hx
   rcases List.mem_append.1 hx with hx | hx
   ·exact ih x hx
   ·split at hx
    ·cases hx
    ·obtain rfl:=List.mem_singleton.1 hx
     exact⟨⟨by show -1≤(1:Int);omega,by show(1:Int)≤1;omega⟩,rfl⟩
 unfold colL at h
 rcases List.mem_append.1 h with h | h
 ·rcases List.mem_append.1 h with h | h
  ·exact hv _ (Nat.le_refl _) x h
  ·exact⟨(hs _ x h).1,.inl (hs _ x h).2⟩
 ·exact⟨(he _ x h).1,.inl (he _ x h).2⟩
theorem col_ok {p:LpX}(hm:MayX p) {pre:List ColX} {x:ColX}(h:pre ++ [x] <+: colL p):(-1≤x.u∧x.u≤1)∧(x.v = -1∨∃j:Nat,j<p.cost.n∧x.v=(j:Nat)):=by
 have:=col_mem (h.subset (by simp:x∈pre ++ [x]))
 rw [hm.1.2.2.1] at this
 exact this
theorem col_row {K base:Nat} {p:LpX} {pre:List ColX} {x:ColX} {XC:Nat→RatD} {y:RatD} {w w8:World} {o:Obj}(hy:EQ true K w y.val (costF p x))(hX : ∀j,j<pre.length→EQ true K w (XC j).val (costF p (pre[j]?.getD ⟨-1,-1,0⟩)))(hf:Fz base 36 (w.alloc o) w8) : ∀j,j<pre.length+1→EQ true K w8 (appR XC pre.length (fun _=>y) j).val (costF p ((pre ++ [x])[j]?.getD ⟨-1,-1,0⟩)):=fun j hj=>by
 by_cases h:j<pre.length
 ·rw [appR_lt _ _ _ h,colP_snoc h]
  exact((hX j h).below (below_new _ _)).kp hf.keep
 ·obtain rfl:j=pre.length:=by omega
  rw [appR_at,colP_last]
  exact(hy.below (below_new _ _)).kp hf.keep
theorem row_row {K base i L:Nat} {p:LpX} {pre:List ColX} {x:ColX} {X:Nat→RatD} {y:RatD} {w w8:World} {o:Obj}(hy:EQ true K w y.val (inF p x i))(hX : ∀j,j<L→EQ true K w (X j).val (inF p ((pre ++ [x])[j]?.getD ⟨-1,-1,0⟩) i))(hf:Fz base 36 (w.alloc o) w8)(hL:L=pre.length) : ∀j,j<pre.length+1→EQ true K w8 (appR X pre.length (fun _=>y) j).val (inF p ((pre ++ [x])[j]?.getD ⟨-1,-1,0⟩) i):=fun j hj=>by
 subst hL
 by_cases h:j<pre.length
 ·rw [appR_lt _ _ _ h]
  exact((hX j h).below (below_new _ _)).kp hf.keep
 ·obtain rfl:j=pre.length:=by omega
  rw [appR_at,colP_last]
  exact(hy.below (below_new _ _)).kp hf.keep
theorem stdI_snoc {K ga ca gs Bs c':Nat} {p:LpX} {w1 W:World} {vb:Value} {vp:Array Value} {pre:List ColX} {x:ColX} {A':Option Addr} {r:Nat→Value} {XA:Nat→Nat→RatD} {XB XC:Nat→RatD}
 (h1:StdO K W w1.heap.size (.slice (some ⟨ga,0,none⟩) (rowsC p) ca) vb (.slice A' (pre.length+1) c') (rowsC p) (fun _=>pre.length+1) (pre.length+1) r XA XB XC (fun q j=>inF p ((pre ++ [x])[j]?.getD ⟨-1,-1,0⟩) q) (heldF p) (fun j=>costF p ((pre ++ [x])[j]?.getD ⟨-1,-1,0⟩)))
 (h2:Blk W gs 31 #[.slice (some ⟨ga,0,none⟩) (rowsC p) ca,vb,.slice A' (pre.length+1) c']) (h3:Blk W Bs 26 vp) (h4:Below w1.heap.size w1 W):StdI K p w1 ga ca vb gs Bs vp (pre ++ [x]) W:=by
 have e:(pre ++ [x]).length=pre.length+1 := jupy
 unfold StdI
 rw [e]
 exact⟨r,XA,XB,XC,A',c',h1,h2,h3,h4⟩
section
variable {V:World} {l:Nat} {oo:Obj}
theorem kp_putN(hl:V.heap[l]? = some oo)(hn : ∀c t m,oo≠ .cells c t m)(o:Obj):Kp V (V.putObj l o):=⟨by simp,fun a z e=>by
 refine(World.cell?_of_block (World.putObj_heap_other fun e2=>?_)).trans e
 rw [World.cell?,e2,hl] at e
 cases oo with
 |cells c t m=>exact hn c t m rfl
 | _=>cases e⟩
theorem Blk.putN(hl:V.heap[l]? = some oo)(hn : ∀c t m,oo≠ .cells c t m)(o:Obj) {g:Nat} {t:TypeId} {cs:Array Value}(h:Blk V g t cs):Blk (V.putObj l o) g t cs :=
 (World.putObj_heap_other fun e2=>hn cs t (0,0) (by have h':V.heap[g]? = _:=h;rw [e2,hl] at h';injection h')).trans h
theorem OwnN.putN(hl:V.heap[l]? = some oo)(hn : ∀c t m,oo≠ .cells c t m)(o:Obj) {base:Nat} {t:TypeId} {z n:Nat} {v:Value} {xs:List Value}(h:OwnN V base t z v n xs):OwnN (V.putObj l o) base t z v n xs:=by
 refine⟨h.1,?_⟩
 rcases h.2 with h | ⟨g,cap,cur,h1,h2,h3,h4⟩
 ·exact .inl h
 ·exact .inr ⟨g,cap,cur,h1,h2,Blk.putN hl hn o h3,h4⟩
theorem StdO.putN(hl:V.heap[l]? = some oo)(hn : ∀c t m,oo≠ .cells c t m)(o:Obj) {base K M N:Nat} {va vb vc:Value} {Ln:Nat→Nat} {r:Nat→Value} {XA:Nat→Nat→RatD} {XB XC:Nat→RatD} {A:Nat→Nat→Rat} {B C:Nat→Rat}(h:StdO K V base va vb vc M Ln N r XA XB XC A B C):StdO K (V.putObj l o) base va vb vc M Ln N r XA XB XC A B C :=
 have hk:=kp_putN hl hn o
 ⟨OwnN.putN hl hn o h.tab,fun i hi=>OwnN.putN hl hn o (h.rows i hi),fun i hi j hj=>(h.rowE i hi j hj).kp hk,OwnN.putN hl hn o h.rb,fun i hi=>(h.rbE i hi).kp hk,OwnN.putN hl hn o h.rc,fun j hj=>(h.rcE j hj).kp hk,h.apR,h.apB,h.apC,h.apBC⟩
end
theorem std_eq(p:LpX)(i k:Nat):sgnQ (heldF p i)*inF p ((colL p)[k]?.getD ⟨-1,-1,0⟩) i=stdA p i k:=rfl
set_option maxRecDepth 100000 in
set_option maxHeartbeats 8000000 in
theorem pstd {k:Nat} {w:World} {v:Value} {p:LpX}(h:LpQ k w v p)(hm:MayX p)(hk:k≤300)(h1:1≤k) :
 Calls Tryz.prog 11 #[v] w fun e w' => ∃vs vr,e = .returned (.tuple #[vs,vr,.int .i64 0])∧StdQ true (49*k+26) w' vs (rowsC p) (colL p).length (stdA p) (stdB p) (stdC p)∧IsRat w' vr (dotF p.cost.q p.lo.q p.cost.n)∧Below w.heap.size w w':=by
 obtain⟨Ac,cc,Ar,cr,Al,cl,Ah,ch,Ao,co,rfl,hqc,hqr,hql,hqh,hqo,g1,g2,g3,g4,g5⟩:=h.form
 have p_0:=Lib.hid (show LpQ k w (.agg #[.slice Ac p.cost.n cc,.slice Ar p.m cr,.slice Al p.lo.n cl,.slice Ah p.hi.n ch,.slice Ao p.no co]) p from⟨_,_,_,_,_,rfl,hqc,hqr,hql,hqh,hqo⟩)
 have HM:=Lib.hid (mayB_true.2 hm)
 have HMX:=Lib.hid hm
 clear h hm hqr hqh hqo hqc hql
 refine(callsIn_wide (n:=5)).1 ?_
 refine callsIn_of_wp_marks Tryz.func11 rfl trivial ?_ rfl
 simp only [Tryz.ntmps11,List.size_toArray,List.length_cons,List.length_nil,Nat.reduceAdd,Nat.reduceSub,Array.replicate_succ,Array.replicate_zero,List.push_toArray,List.append_toArray,List.nil_append,List.cons_append]
 have Z_0:Hid (Blk (((w.alloc (.cells #[.slice Ac p.cost.n cc,.slice Ar p.m cr,.slice Al p.lo.n cl,.slice Ah p.hi.n ch,.slice Ao p.no co] 26)).alloc (.cells #[.slice none 0 0,.slice none 0 0,.slice none 0 0] 31)).alloc (.cells #[.bool false,.slice none 0 0,.bool false,.slice none 0 0] 36)) w.heap.size 26 #[.slice Ac p.cost.n cc,.slice Ar p.m cr,.slice Al p.lo.n cl,.slice Ah p.hi.n ch,.slice Ao p.no co]):=((Blk.new _ _ rfl _ _).alloc_ _).alloc_ _
 gi_wp2_with (refine⟨trivial,?_⟩;gi_at_call 15;refine(callsIn_wide.2 (pMay_is HM.out (((p_0.out.alloc_ _).alloc_ _).alloc_ _) j0i3 h1)).mono ?_;rintro e w1 ⟨rfl,hb⟩;have K1:=Lib.hid (Blk.below Z_0.out hb);obtain⟨k0,k1,k2,k3,k4,kl⟩:=K1.out.use5)
 have HP1:=Lib.hid (p_0.out.below (bun (bun (bun hb))))
 have HB1:=Lib.hid (bun (bun (bun hb)))
 have KA1:=Lib.hid (show Blk w1 (w.heap.size+1) 31 #[.slice none 0 0,.slice none 0 0,.slice none 0 0] from((Blk.new _ _ jupy _ _).alloc_ _).below hb)
 have KR1:=Lib.hid (show Blk w1 (w.heap.size+1+1) 36 #[.bool false,.slice none 0 0,.bool false,.slice none 0 0] from(Blk.new _ _ jupy _ _).below hb)
 clear hb Z_0
 refine⟨trivial,?_⟩
 refine(callsIn_wide.2 (pheld HP1.out HMX.out hk h1)).mono ?_
 rintro e w2 ⟨vb,XB0,rfl,how,hoe,hb⟩
 obtain⟨Ab,cb,rfl,_⟩:=how.rowAt
 have HOB2:=Lib.hid how
 have HOE2:=Lib.hid hoe
 have HB12:=Lib.hid hb
 have K2:=Lib.hid (K1.out.below hb)
 clear how hoe hb k0 k1 k2 k3 k4 kl
 obtain⟨k0,k1,k2,k3,k4,kl⟩:=K2.out.use5
 have hrc:rowsC p≤48:=by
  have:=HMX.out.1
  have:=cntF_le p.op p.no
  unfold rowsC
  omega
 have HRC:=Lib.hid hrc
 clear hrc
 gi_wp2_with (gi_at_make;go_loud (refine wpListIn_make_rows rfl rfl _ _ rfl w1.heap.size _ _ _ _ (rowsC p) rfl rfl rfl rfl (by have:=HRC.out;omega) (by have:=HB12.out.size;simp;omega) ?_);intro w3 hown hbw hsw;have K3:=Lib.hid ((K2.out.alloc_ (.cells #[.slice none 0 0,.slice Ab (rowsC p) cb,.slice none 0 0] 31)).below hbw);have KS3:=Lib.hid (show Blk w3 w2.heap.size 31 #[.slice none 0 0,.slice Ab (rowsC p) cb,.slice none 0 0] from(Blk.new _ _ rfl _ _).below hbw);obtain⟨m0,m1,m2,m3,m4,ml⟩:=K3.out.use5;obtain⟨n0,n1,n2,nl⟩:=KS3.out.use3;obtain⟨i0,i1,i2⟩:=KS3.out.into3;have hne:w2.heap.size≠w.heap.size := j0i3)
 refine⟨trivial,?_⟩
 refine(callsIn_wide.2 (pcolumns _ _ _ _ _ _)).mono ?_
 rintro e w5 ⟨rfl,rfl⟩
 have hg3:Hid (w2.heap.size<w3.heap.size):=KS3.out.lt
 have HF4:Hid (Fz w1.heap.size 31 w3 (w3.setCell ⟨w2.heap.size,0,none⟩ (.slice (some ⟨w2.heap.size+1,0,none⟩) (rowsC p) (rowsC p)))):=fz_cell KS3.out (nu3 nu nu nu) HB12.out.size
 have hs23:(w2.alloc (.cells #[.slice none 0 0,.slice Ab (rowsC p) cb,.slice none 0 0] 31)).heap.size=w2.heap.size+1 := jupy
 rw [hs23] at hown
 have HB23:Hid (Below w2.heap.size w2 w3):=bun hbw
 have hso:StdO (49*k+26) w3 w1.heap.size (.slice (some ⟨w2.heap.size+1,0,none⟩) (rowsC p) (rowsC p)) (.slice Ab (rowsC p) cb) (.slice none 0 0) (rowsC p) (fun _=>0) 0 (fun _ => .slice none 0 0) (fun _ _=>ratZ) XB0 (fun _=>ratZ) (fun i j=>inF p (([]:List ColX)[j]?.getD ⟨-1,-1,0⟩) i) (heldF p) (fun j=>costF p (([]:List ColX)[j]?.getD ⟨-1,-1,0⟩)) :=
  ⟨hown,fun _ _=>OwnR.nil,fun _ _ j hj=>absurd hj j0i3,HOB2.out.below HB23.out,fun i hi=>(HOE2.out i hi).below HB23.out,OwnR.nil,fun j hj=>absurd hj j0i3,fun _ _ _ _ _=>Apart.nil,fun _ _=>Apart.nil,fun _ _=>Apart.nil,Apart.symm Apart.nil⟩
 obtain⟨w4,hw4⟩ : ∃W,W=w3.setCell ⟨w2.heap.size,0,none⟩ (.slice (some ⟨w2.heap.size+1,0,none⟩) (rowsC p) (rowsC p)):=⟨_,rfl⟩
 have hsz4:w4.heap.size=w3.heap.size:=by rw [hw4];simp [World.setCell]
 have HS4:=Lib.hid (hso.fzS (hw4▸HF4.out))
 have KS4:=Lib.hid (show Blk w4 w2.heap.size 31 #[.slice (some ⟨w2.heap.size+1,0,none⟩) (rowsC p) (rowsC p),.slice Ab (rowsC p) cb,.slice none 0 0] from hw4▸KS3.out.set_ 0 _)
 have HB14:=Lib.hid (show Below w1.heap.size w1 w4 from((HB12.out.trans (HB23.out.mono HB12.out.size)).trans (hw4▸HF4.out.below)))
 have HI0:Hid (StdI (49*k+26) p w1 (w2.heap.size+1) (rowsC p) (.slice Ab (rowsC p) cb) w2.heap.size w4.heap.size #[.slice Ac p.cost.n cc,.slice Ar p.m cr,.slice Al p.lo.n cl,.slice Ah p.hi.n ch,.slice Ao p.no co] [] (w4.alloc (.cells #[.slice Ac p.cost.n cc,.slice Ar p.m cr,.slice Al p.lo.n cl,.slice Ah p.hi.n ch,.slice Ao p.no co] 26))):=⟨_,_,_,_,none,0,HS4.out.alloc_ _,KS4.out.alloc_ _,Blk.new _ _ rfl _ _,HB14.out.trans ((below_new _ _).mono HB14.out.size)⟩
 have HGS:Hid (w1.heap.size≤w2.heap.size∧w2.heap.size<w4.heap.size):=⟨HB12.out.size,by rw [hsz4];exact hg3.out⟩
 rw [← hw4]
 clear hso hown hbw hs23 hsw hw4 hg3 HF4 m0 m1 m2 m3 m4 ml n0 n1 n2 nl i0 i1 i2 K3 KS3 k0 k1 k2 k3 k4 kl K2 HB12 HB23 HS4 KS4 HOB2 HOE2 hsz4
 generalize w2.heap.size=gs at *
 gi_wp2
 have HP1':=HP1
 refine rangeOwn (α:=ColX) (gf:=68) (lb := #[.pointer (some ⟨w4.heap.size,0,none⟩)]) (encs:=encC) (M:=LpM w w4.heap.size #[.slice Ac p.cost.n cc,.slice Ar p.m cr,.slice Al p.lo.n cl,.slice Ah p.hi.n ch,.slice Ao p.no co]) (G:=fun pre x _=>pre ++ [x] <+: colL p) (Kp:=KpI) (S:=fun xs=>xs=colL p) (Sp:=fun pre=>pre <+: colL p) (N:=(colL p).length)
  rfl (enters_of Tryz.func68 jo0f rfl) (fun x=>rfl) (fun W1 _ _=>cols_seq p_0.out)
  (fun pre V=>StdI (49*k+26) p w1 (gs+1) (rowsC p) (.slice Ab (rowsC p) cb) gs w4.heap.size #[.slice Ac p.cost.n cc,.slice Ar p.m cr,.slice Al p.lo.n cl,.slice Ah p.hi.n ch,.slice Ao p.no co] pre V) (fun _ _ _=>False)
  (fun pre x a' V => ∃g6,a' = { tmps := #[(.agg #[.slice Ac p.cost.n cc,.slice Ar p.m cr,.slice Al p.lo.n cl,.slice Ah p.hi.n ch,.slice Ao p.no co]),.pointer (some ⟨w.heap.size,0,none⟩),.pointer (some ⟨w.heap.size+1,0,none⟩),.pointer (some ⟨w.heap.size+1+1,0,none⟩),.int .i64 0,.pointer (some ⟨gs,0,none⟩),(.pointer (some ⟨g6,0,none⟩)),undef,undef,undef,(.agg #[.slice Ac p.cost.n cc,.slice Ar p.m cr,.slice Al p.lo.n cl,.slice Ah p.hi.n ch,.slice Ao p.no co]),.bool true,.bool false,undef,undef,(.agg #[.slice Ac p.cost.n cc,.slice Ar p.m cr,.slice Al p.lo.n cl,.slice Ah p.hi.n ch,.slice Ao p.no co]),.slice Ab (rowsC p) cb,.agg #[.slice none 0 0,.slice Ab (rowsC p) cb,.slice none 0 0],.pointer (some ⟨gs,1,none⟩),.slice Ab (rowsC p) cb,.int .i64 (rowsC p:Nat),.slice (some ⟨gs+1,0,none⟩) (rowsC p) (rowsC p),.pointer (some ⟨gs,0,none⟩),(.agg #[.slice Ac p.cost.n cc,.slice Ar p.m cr,.slice Al p.lo.n cl,.slice Ah p.hi.n ch,.slice Ao p.no co]),.func (.func 68) #[] #[.pointer (some ⟨w4.heap.size,0,none⟩)],(.agg #[.int .i64 x.v,.int .i64 x.r,.int .i64 x.u]),undef,undef,undef,undef,undef,undef,undef,undef,undef,undef,undef,undef,undef,undef,undef,undef,undef,undef,undef,undef,undef,undef,undef,undef,undef,undef,undef,undef,undef,undef,undef,undef,undef,undef,undef,undef,undef,undef,undef,undef,undef,undef],defers := [] } ∧Blk V g6 67 #[.int .i64 x.v,.int .i64 x.r,.int .i64 x.u]∧StdI (49*k+26) p w1 (gs+1) (rowsC p) (.slice Ab (rowsC p) cb) gs w4.heap.size #[.slice Ac p.cost.n cc,.slice Ar p.m cr,.slice Al p.lo.n cl,.slice Ah p.hi.n ch,.slice Ao p.no co] pre V∧pre ++ [x] <+: colL p)
  ?hM (fun pre V V' h hb=>h.below hb) (fun _ _ _ _ h _=>h) ?hIp (fun _ _ _ _ _ _ h=>h) ?hAp (fun h h'=>h.trans h') (fun V r o hl=>kpI_put hl o) HI0.out ?assign ?body ?done ?stop
 case hM =>
  rintro pre V ⟨_,_,_,_,_,_,_,_,h3,h4⟩
  exact⟨HB1.out.trans (h4.mono HB1.out.size),h3⟩
 case hIp=>exact fun pre V r o hl h=>h.put hl o jhvh
 case hAp =>
  rintro pre x a' V r o hl ⟨g6,rfl,h6,hi,hg⟩
  exact⟨g6,rfl,put_other hl o h6,hi.put hl o jhvh,hg⟩
 case assign =>
  intro pre x V r K hi hg hl hd hlen hK
  gi_wp2
  exact hK _ _ ⟨_,rfl,Blk.new _ _ rfl _ _,hi.below (below_new _ _),hg⟩ ((below_new V _).block _ (Array.getElem?_eq_some_iff.1 hd).1) ((below_new V _).block _ (Array.getElem?_eq_some_iff.1 hl).1) (KpI.of_below (below_new V _))
 case body =>
  rintro pre x a' V ⟨g6,rfl,h6,hi,hg⟩ hd ⟨rl,hl⟩
  obtain⟨r,XA,XB,XC,Aq,cq,hst,hks,hkb,hbl⟩:=hi
  have HST:=Lib.hid hst
  have KS:=Lib.hid hks
  have KB:=Lib.hid hkb
  have K6:=Lib.hid h6
  have HBL:=Lib.hid hbl
  have HD:=Lib.hid hd
  have HL:=Lib.hid hl
  have HG:=Lib.hid hg
  have KP:=Lib.hid (K1.out.below hbl)
  have HPV:=Lib.hid (HP1.out.below hbl)
  have HC:=Lib.hid (col_ok HMX.out hg)
  have hln:pre.length+1≤100:=by
   have h1:=pre_lt hg
   have:=colL_len p
   have:=HMX.out.1
   omega
  clear hst hks hkb h6 hbl hd hl hg
  obtain⟨s0,s1,s2,sl⟩:=KS.out.use3
  obtain⟨q0,q1,q2,ql⟩:=K6.out.use3
  obtain⟨k0,k1,k2,k3,k4,kl⟩:=KP.out.use5
  have hgg:gs≠g6:=by
   intro e
   have h1:V.heap[gs]? = _:=KS.out
   have h2:V.heap[g6]? = _:=K6.out
   rw [e,h2] at h1
   injection h1 with h1
   injection h1 with _ h1 _
   exact absurd h1 jpu1
  gi_wp2
  refine region_cut (fun a a' W => ∃ (y:RatD) (ad:Addr) (A':Option Addr) (c':Nat),a'=((((((((a.put (some 26) (.pointer (some ⟨gs,2,none⟩))).put (some 27) (.slice Aq pre.length cq)).put (some 28) (.agg #[.int .i64 x.v,.int .i64 x.r,.int .i64 x.u])).put (some 29) (.agg #[.slice Ac p.cost.n cc,.slice Ar p.m cr,.slice Al p.lo.n cl,.slice Ah p.hi.n ch,.slice Ao p.no co])).put (some 30) y.val).put (some 31) (.slice (some ad) 1 1)).put (some 32) (.slice A' (pre.length+1) c')).put (some 33) (.pointer (some ⟨gs,2,none⟩)))∧Hid (∃XC',StdO (49*k+26) W w1.heap.size (.slice (some ⟨gs+1,0,none⟩) (rowsC p) (rowsC p)) (.slice Ab (rowsC p) cb) (.slice A' (pre.length+1) c') (rowsC p) (fun _=>pre.length) (pre.length+1) r XA XB XC' (fun i j=>inF p (pre[j]?.getD ⟨-1,-1,0⟩) i) (heldF p) (fun j=>costF p ((pre ++ [x])[j]?.getD ⟨-1,-1,0⟩)))∧Hid (Blk W gs 31 #[.slice (some ⟨gs+1,0,none⟩) (rowsC p) (rowsC p),.slice Ab (rowsC p) cb,.slice A' (pre.length+1) c'])∧Hid (St3 V W)∧Hid (Below w1.heap.size w1 W)) ?_ ?_
  ·refine region_round_held (S:=(fun w'=>w'.cell? ⟨g6,0,none⟩=some (.int .i64 x.v)∧w'.cell? ⟨g6,1,none⟩=some (.int .i64 x.r)∧w'.cell? ⟨g6,2,none⟩=some (.int .i64 x.u)∧w'.cell? ⟨w.heap.size,0,none⟩=some (.slice Ac p.cost.n cc)∧w'.cell? ⟨w.heap.size,1,none⟩=some (.slice Ar p.m cr)∧w'.cell? ⟨w.heap.size,2,none⟩=some (.slice Al p.lo.n cl)∧w'.cell? ⟨w.heap.size,3,none⟩=some (.slice Ah p.hi.n ch)∧w'.cell? ⟨w.heap.size,4,none⟩=some (.slice Ao p.no co))) jo0f jo0f jtj1 ?_ (fun hHeld=>?_)
   ·(first | (refine⟨?_,?_,?_,?_,?_,?_,?_,?_⟩ <;> (first | with_reducible assumption | ((with_reducible refine Eq.trans (cell_drew _ _) ?_);with_reducible assumption) | ((repeat rw [World.cell?_setCell_far _ _ _ _ js7b]);with_reducible assumption) | go_keep)) | go_keep)
   refine jtk 0 ?_
   refine jtk 2 ?_
   refine jtk 3 ?_
   refine wpAnyH_ready (rs := [1,4]) jo0f jupy ?_
   refine AllReadyH.cons rfl (fun Kz hKz=>?_) (AllReadyH.cons rfl (fun Kz hKz=>?_) AllReadyH.nil)
   ·go_simp
    refine hKz.out _ _ j3k1 (fun hHeld=>?_)
    clear hKz Kz
    refine jsp ?_
    refine jrd 4 fun Kz hKz=>?_
    go_simp
    refine Calls.mono (pccost (c:=x) (HPV.out.below (Below.refl _ _).drew) j0i3 h1 HC.out.2) ?_;rintro e w5 ⟨v,rfl,h,hb⟩;obtain⟨b5,A5,n5,c5,d5,B5,m5,k5,rfl,-,-,-,-,-⟩:=h.form;have hBw:=(show Below V.heap.size V w5 from jc22);have HE5:=Lib.hid (EQ.of (p:=true) (k:=49*k+26) h (costF_bq HPV.out h1 HC.out.2 j0i3));have KS5:=Lib.hid (KS.out.below hBw);have K65:=Lib.hid (K6.out.below hBw);have KP5:=Lib.hid (KP.out.below hBw);have HST5:=Lib.hid (HST.out.below hBw);have HB5:=Lib.hid (HBL.out.trans (hBw.mono HBL.out.size));have HS5:=Lib.hid (St3.of_below hBw);obtain⟨s0',s1',s2',sl'⟩:=KS5.out.use3;obtain⟨q0',q1',q2',ql'⟩:=K65.out.use3;obtain⟨k0',k1',k2',k3',k4',kl'⟩:=KP5.out.use5;clear h hb hBw s0 s1 s2 sl q0 q1 q2 ql k0 k1 k2 k3 k4 kl
    refine hKz.out _ _ j3k1 (fun hHeld=>?_)
    clear hKz Kz
    refine jsp ?_
    refine jrd 5 fun Kz hKz=>?_
    go_simp
    refine hKz.out _ _ j3k1 (fun hHeld=>?_)
    clear hKz Kz
    refine jsp ?_
    refine jrd 6 fun Kz hKz=>?_
    refine step_append_rats3 rfl rfl (.tmp 27) (.tmp 31) rfl (base:=w1.heap.size) (n:=pre.length) (m:=1) (c:=1) (X:=XC) (Y:=fun _=>⟨b5,A5,n5,c5,d5,B5,m5,k5⟩) rfl (OwnR.alloc_ HST5.out.rc _) rfl (rowAt_one w5 _ rfl ⟨b5,A5,n5,c5,d5,B5,m5,k5⟩) (fun e=>by cases e) j0i3 jov6 ?_;intro v8 w8 ho hf hgr;obtain⟨A8,c8,rfl,_⟩:=ho.rowAt;have HST8:=Lib.hid (StdO.appC (HST5.out.alloc_ _) hgr hf ho (col_row HE5.out HST5.out.rcE hf));have KS8:=Lib.hid (Blk.fz (KS5.out.alloc_ _) hf jpu1);have K68:=Lib.hid (Blk.fz (K65.out.alloc_ _) hf jpu1);have KP8:=Lib.hid (Blk.fz (KP5.out.alloc_ _) hf jpu1);have HS8:=Lib.hid ((HS5.out.trans (St3.of_below (below_new _ _))).trans (St3.rat hf));have HB8:=Lib.hid ((HB5.out.trans ((below_new _ _).mono HB5.out.size)).trans hf.below);clear ho hf hgr HST5 KS5 K65 KP5 HS5 HB5 HE5 s0' s1' s2' sl' q0' q1' q2' ql' k0' k1' k2' k3' k4' kl';obtain⟨s0,s1,s2,sl⟩:=KS8.out.use3;obtain⟨i0,i1,i2⟩:=KS8.out.into3;obtain⟨q0,q1,q2,ql⟩:=K68.out.use3;obtain⟨k0,k1,k2,k3,k4,kl⟩:=KP8.out.use5
    refine hKz.out _ _ j3k1 (fun hHeld=>?_)
    clear hKz Kz
    refine jsp ?_
    refine jtk 7 ?_
    refine jrd 8 fun Kz hKz=>?_
    go_simp
    refine hKz.out _ _ j3k1 (fun hHeld=>?_)
    clear hKz Kz
    refine jsp ?_
    (try simp only [Act.put,List.setIfInBounds_toArray,List.set_cons_zero,List.set_cons_succ,List.getElem_toArray,List.getElem_cons_succ,List.getElem_cons_zero])
    refine wpAnyH_done jo0f ?_ _
    exact⟨⟨b5,A5,n5,c5,d5,B5,m5,k5⟩,⟨w5.heap.size,0,none⟩,A8,c8,rfl,⟨_,HST8.out.fzS (fz_cell KS8.out (nu3 nu nu nu) HGS.out.1)⟩,KS8.out.set_ 2 _,HS8.out.trans (St3.std KS8.out rfl),HB8.out.trans (Below.setCell (Below.refl _ _) HGS.out.1 _)⟩
   ·go_simp
    refine Calls.mono (pccost (c:=x) (HPV.out.below (Below.refl _ _).drew) j0i3 h1 HC.out.2) ?_;rintro e w5 ⟨v,rfl,h,hb⟩;obtain⟨b5,A5,n5,c5,d5,B5,m5,k5,rfl,-,-,-,-,-⟩:=h.form;have hBw:=(show Below V.heap.size V w5 from jc22);have HE5:=Lib.hid (EQ.of (p:=true) (k:=49*k+26) h (costF_bq HPV.out h1 HC.out.2 j0i3));have KS5:=Lib.hid (KS.out.below hBw);have K65:=Lib.hid (K6.out.below hBw);have KP5:=Lib.hid (KP.out.below hBw);have HST5:=Lib.hid (HST.out.below hBw);have HB5:=Lib.hid (HBL.out.trans (hBw.mono HBL.out.size));have HS5:=Lib.hid (St3.of_below hBw);obtain⟨s0',s1',s2',sl'⟩:=KS5.out.use3;obtain⟨q0',q1',q2',ql'⟩:=K65.out.use3;obtain⟨k0',k1',k2',k3',k4',kl'⟩:=KP5.out.use5;clear h hb hBw s0 s1 s2 sl q0 q1 q2 ql k0 k1 k2 k3 k4 kl
    refine hKz.out _ _ j3k1 (fun hHeld=>?_)
    clear hKz Kz
    refine jsp ?_
    refine wpAnyH_ready (rs := [1,5]) jo0f jupy ?_
    refine AllReadyH.cons rfl (fun Kz hKz=>?_) (AllReadyH.cons rfl (fun Kz hKz=>?_) AllReadyH.nil)
    ·go_simp
     refine hKz.out _ _ j3k1 (fun hHeld=>?_)
     clear hKz Kz
     refine jsp ?_
     refine jrd 5 fun Kz hKz=>?_
     go_simp
     refine hKz.out _ _ j3k1 (fun hHeld=>?_)
     clear hKz Kz
     refine jsp ?_
     refine jrd 6 fun Kz hKz=>?_
     refine step_append_rats3 rfl rfl (.tmp 27) (.tmp 31) rfl (base:=w1.heap.size) (n:=pre.length) (m:=1) (c:=1) (X:=XC) (Y:=fun _=>⟨b5,A5,n5,c5,d5,B5,m5,k5⟩) rfl (OwnR.alloc_ HST5.out.rc _) rfl (rowAt_one w5 _ rfl ⟨b5,A5,n5,c5,d5,B5,m5,k5⟩) (fun e=>by cases e) j0i3 jov6 ?_;intro v8 w8 ho hf hgr;obtain⟨A8,c8,rfl,_⟩:=ho.rowAt;have HST8:=Lib.hid (StdO.appC (HST5.out.alloc_ _) hgr hf ho (col_row HE5.out HST5.out.rcE hf));have KS8:=Lib.hid (Blk.fz (KS5.out.alloc_ _) hf jpu1);have K68:=Lib.hid (Blk.fz (K65.out.alloc_ _) hf jpu1);have KP8:=Lib.hid (Blk.fz (KP5.out.alloc_ _) hf jpu1);have HS8:=Lib.hid ((HS5.out.trans (St3.of_below (below_new _ _))).trans (St3.rat hf));have HB8:=Lib.hid ((HB5.out.trans ((below_new _ _).mono HB5.out.size)).trans hf.below);clear ho hf hgr HST5 KS5 K65 KP5 HS5 HB5 HE5 s0' s1' s2' sl' q0' q1' q2' ql' k0' k1' k2' k3' k4' kl';obtain⟨s0,s1,s2,sl⟩:=KS8.out.use3;obtain⟨i0,i1,i2⟩:=KS8.out.into3;obtain⟨q0,q1,q2,ql⟩:=K68.out.use3;obtain⟨k0,k1,k2,k3,k4,kl⟩:=KP8.out.use5
     refine hKz.out _ _ j3k1 (fun hHeld=>?_)
     clear hKz Kz
     refine jsp ?_
     refine jtk 7 ?_
     refine jrd 8 fun Kz hKz=>?_
     go_simp
     refine hKz.out _ _ j3k1 (fun hHeld=>?_)
     clear hKz Kz
     refine jsp ?_
     (try simp only [Act.put,List.setIfInBounds_toArray,List.set_cons_zero,List.set_cons_succ,List.getElem_toArray,List.getElem_cons_succ,List.getElem_cons_zero])
     refine wpAnyH_done jo0f ?_ _
     exact⟨⟨b5,A5,n5,c5,d5,B5,m5,k5⟩,⟨w5.heap.size,0,none⟩,A8,c8,rfl,⟨_,HST8.out.fzS (fz_cell KS8.out (nu3 nu nu nu) HGS.out.1)⟩,KS8.out.set_ 2 _,HS8.out.trans (St3.std KS8.out rfl),HB8.out.trans (Below.setCell (Below.refl _ _) HGS.out.1 _)⟩
    ·go_simp
     refine hKz.out _ _ j3k1 (fun hHeld=>?_)
     clear hKz Kz
     refine jsp ?_
     refine jrd 1 fun Kz hKz=>?_
     go_simp
     refine hKz.out _ _ j3k1 (fun hHeld=>?_)
     clear hKz Kz
     refine jsp ?_
     refine jrd 6 fun Kz hKz=>?_
     refine step_append_rats3 rfl rfl (.tmp 27) (.tmp 31) rfl (base:=w1.heap.size) (n:=pre.length) (m:=1) (c:=1) (X:=XC) (Y:=fun _=>⟨b5,A5,n5,c5,d5,B5,m5,k5⟩) rfl (OwnR.alloc_ HST5.out.rc _) rfl (rowAt_one w5 _ rfl ⟨b5,A5,n5,c5,d5,B5,m5,k5⟩) (fun e=>by cases e) j0i3 jov6 ?_;intro v8 w8 ho hf hgr;obtain⟨A8,c8,rfl,_⟩:=ho.rowAt;have HST8:=Lib.hid (StdO.appC (HST5.out.alloc_ _) hgr hf ho (col_row HE5.out HST5.out.rcE hf));have KS8:=Lib.hid (Blk.fz (KS5.out.alloc_ _) hf jpu1);have K68:=Lib.hid (Blk.fz (K65.out.alloc_ _) hf jpu1);have KP8:=Lib.hid (Blk.fz (KP5.out.alloc_ _) hf jpu1);have HS8:=Lib.hid ((HS5.out.trans (St3.of_below (below_new _ _))).trans (St3.rat hf));have HB8:=Lib.hid ((HB5.out.trans ((below_new _ _).mono HB5.out.size)).trans hf.below);clear ho hf hgr HST5 KS5 K65 KP5 HS5 HB5 HE5 s0' s1' s2' sl' q0' q1' q2' ql' k0' k1' k2' k3' k4' kl';obtain⟨s0,s1,s2,sl⟩:=KS8.out.use3;obtain⟨i0,i1,i2⟩:=KS8.out.into3;obtain⟨q0,q1,q2,ql⟩:=K68.out.use3;obtain⟨k0,k1,k2,k3,k4,kl⟩:=KP8.out.use5
     refine hKz.out _ _ j3k1 (fun hHeld=>?_)
     clear hKz Kz
     refine jsp ?_
     refine jtk 7 ?_
     refine jrd 8 fun Kz hKz=>?_
     go_simp
     refine hKz.out _ _ j3k1 (fun hHeld=>?_)
     clear hKz Kz
     refine jsp ?_
     (try simp only [Act.put,List.setIfInBounds_toArray,List.set_cons_zero,List.set_cons_succ,List.getElem_toArray,List.getElem_cons_succ,List.getElem_cons_zero])
     refine wpAnyH_done jo0f ?_ _
     exact⟨⟨b5,A5,n5,c5,d5,B5,m5,k5⟩,⟨w5.heap.size,0,none⟩,A8,c8,rfl,⟨_,HST8.out.fzS (fz_cell KS8.out (nu3 nu nu nu) HGS.out.1)⟩,KS8.out.set_ 2 _,HS8.out.trans (St3.std KS8.out rfl),HB8.out.trans (Below.setCell (Below.refl _ _) HGS.out.1 _)⟩
  ·rintro a' W ⟨y,ad,A',c',rfl,HST2,KS2,HS3,HB2⟩
   obtain⟨XC',hst2⟩:=HST2.out
   have HI1:Hid (StdO (49*k+26) W w1.heap.size (.slice (some ⟨gs+1,0,none⟩) (rowsC p) (rowsC p)) (.slice Ab (rowsC p) cb) (.slice A' (pre.length+1) c') (rowsC p) (fun q=>if q<0 then pre.length+1 else pre.length) (pre.length+1) r XA XB XC' (fun q j=>inF p ((pre ++ [x])[j]?.getD ⟨-1,-1,0⟩) q) (heldF p) (fun j=>costF p ((pre ++ [x])[j]?.getD ⟨-1,-1,0⟩))):=(hst2.congrL (fun q hq=>by rw [if_neg j0i3])).congr (fun q hq j hj=>by rw [if_neg j0i3] at hj;rw [colP_snoc hj]) (fun _ _=>rfl) (fun _ _=>rfl)
   clear hst2 HST2 s0 s1 s2 sl q0 q1 q2 ql k0 k1 k2 k3 k4 kl HST KS KP HPV
   obtain⟨s0,s1,s2,sl⟩:=KS2.out.use3
   simp only [Act.put,List.setIfInBounds_toArray,List.set_cons_zero,List.set_cons_succ,List.getElem_toArray,List.getElem_cons_succ,List.getElem_cons_zero]
   gi_wp2
   gi_loopw [37] (fun v37 wr => ∃ (i:Nat) (r:Nat→Value) (XA:Nat→Nat→RatD),v37 = .int .i64 (i:Nat)∧i≤rowsC p∧StdO (49*k+26) wr w1.heap.size (.slice (some ⟨gs+1,0,none⟩) (rowsC p) (rowsC p)) (.slice Ab (rowsC p) cb) (.slice A' (pre.length+1) c') (rowsC p) (fun q=>if q<i then pre.length+1 else pre.length) (pre.length+1) r XA XB XC' (fun q j=>inF p ((pre ++ [x])[j]?.getD ⟨-1,-1,0⟩) q) (heldF p) (fun j=>costF p ((pre ++ [x])[j]?.getD ⟨-1,-1,0⟩))∧Blk wr gs 31 #[.slice (some ⟨gs+1,0,none⟩) (rowsC p) (rowsC p),.slice Ab (rowsC p) cb,.slice A' (pre.length+1) c']∧St3 V wr∧Below w1.heap.size w1 wr) (fun v37 _=>rowsC p - (intOf v37).toNat)
   case atStart=>exact⟨0,r,XA,rfl,Nat.zero_le _,HI1.out,KS2.out,HS3.out,HB2.out⟩
   case round =>
    clear s0 s1 s2 sl HI1 KS2 HS3 HB2 r XA
    obtain⟨i,r,XA,rfl,hi,hst,hks,hs3,hbl⟩:=hrel
    have HSTr:=Lib.hid hst
    have KSr:=Lib.hid hks
    have HSr:=Lib.hid hs3
    have HBr:=Lib.hid hbl
    clear hst hks hs3 hbl
    by_cases hlt:i<rowsC p
    ·have hi0:(0:Int)≤(i:Int):=by omega
     have hik:(i:Int)<(rowsC p:Int) := j0i3
     have hrc48:=HRC.out
     have KPr:=Lib.hid (K1.out.below HBr.out)
     have HPr:=Lib.hid (HP1.out.below HBr.out)
     have K6r:=Lib.hid (HSr.out.blk K6.out jpu1 jpu1 jpu1)
     have HC2:Hid (x.v = -1∨∃j:Nat,(i<p.m→j<(p.row i).coef.n)∧x.v=(j:Nat)):=by
      rcases HC.out.2 with h | ⟨j,hj,h⟩
      ·exact .inl h
      ·exact .inr ⟨j,fun hm=>by rw [(HMX.out.2.2.1 i hm).1];exact hj,h⟩
     have hro:=HSTr.out.rows i hlt
     rw [if_neg j0i3] at hro
     obtain⟨Aw,cw,er,_⟩:=hro.rowAt
     rw [er] at hro
     have HRO:=Lib.hid hro
     have ht:=OwnT.at_ HSTr.out.tab hlt
     rw [er] at ht
     have htl:=OwnT.lt HSTr.out.tab
     have ER:=Lib.hid er
     obtain⟨s0,s1,s2,sl⟩:=KSr.out.use3
     obtain⟨q0,q1,q2,ql⟩:=K6r.out.use3
     obtain⟨k0,k1,k2,k3,k4,kl⟩:=KPr.out.use5
     have hn1:gs+1≠gs := j0i3
     have hn2:gs+1≠g6:=by
      intro e
      obtain⟨_,_,cur,hc⟩:=OwnN.blk HSTr.out.tab
      have h1:wr.heap[gs+1]? = _:=hc
      have h2:wr.heap[g6]? = _:=K6r.out
      rw [e,h2] at h1
      injection h1 with h1
      injection h1 with _ h1 _
      exact absurd h1 jpu1
     have hn3:gs+1≠w.heap.size:=by have:=HGS.out;have:=HB1.out.size;have:=K1.out.lt;omega
     clear hro er
     gi_wp2
     have er:=ER.out
     refine region_cut_b (fun a a' W' => ∃ (y:RatD) (ad:Addr) (A9:Option Addr) (c9:Nat),a'=(((((((((((((((a.put (some 40) (.pointer (some ⟨gs,0,none⟩))).put (some 41) (.slice (some ⟨gs+1,0,none⟩) (rowsC p) (rowsC p))).put (some 42) (.int .i64 (i:Nat))).put (some 43) (.pointer (some ⟨gs,0,none⟩))).put (some 44) (.slice (some ⟨gs+1,0,none⟩) (rowsC p) (rowsC p))).put (some 45) (.int .i64 (i:Nat))).put (some 46) (.pointer (some ⟨gs+1,i,none⟩))).put (some 47) (.slice Aw pre.length cw)).put (some 48) (.agg #[.int .i64 x.v,.int .i64 x.r,.int .i64 x.u])).put (some 49) (.agg #[.slice Ac p.cost.n cc,.slice Ar p.m cr,.slice Al p.lo.n cl,.slice Ah p.hi.n ch,.slice Ao p.no co])).put (some 50) (.int .i64 (i:Nat))).put (some 51) y.val).put (some 52) (.slice (some ad) 1 1)).put (some 53) (.slice A9 (pre.length+1) c9)).put (some 54) (.pointer (some ⟨gs+1,i,none⟩)))∧Hid (∃r XA,StdO (49*k+26) W' w1.heap.size (.slice (some ⟨gs+1,0,none⟩) (rowsC p) (rowsC p)) (.slice Ab (rowsC p) cb) (.slice A' (pre.length+1) c') (rowsC p) (fun q=>if q<(i+1) then pre.length+1 else pre.length) (pre.length+1) r XA XB XC' (fun q j=>inF p ((pre ++ [x])[j]?.getD ⟨-1,-1,0⟩) q) (heldF p) (fun j=>costF p ((pre ++ [x])[j]?.getD ⟨-1,-1,0⟩)))∧Hid (Blk W' gs 31 #[.slice (some ⟨gs+1,0,none⟩) (rowsC p) (rowsC p),.slice Ab (rowsC p) cb,.slice A' (pre.length+1) c'])∧Hid (St3 V W')∧Hid (Below w1.heap.size w1 W')) ?_ ?_
     ·refine region_round_held (S:=(fun w'=>w'.cell? ⟨gs,0,none⟩=some (.slice (some ⟨gs+1,0,none⟩) (rowsC p) (rowsC p))∧w'.cell? ⟨g6,0,none⟩=some (.int .i64 x.v)∧w'.cell? ⟨g6,1,none⟩=some (.int .i64 x.r)∧w'.cell? ⟨g6,2,none⟩=some (.int .i64 x.u)∧w'.cell? ⟨w.heap.size,0,none⟩=some (.slice Ac p.cost.n cc)∧w'.cell? ⟨w.heap.size,1,none⟩=some (.slice Ar p.m cr)∧w'.cell? ⟨w.heap.size,2,none⟩=some (.slice Al p.lo.n cl)∧w'.cell? ⟨w.heap.size,3,none⟩=some (.slice Ah p.hi.n ch)∧w'.cell? ⟨w.heap.size,4,none⟩=some (.slice Ao p.no co))) jo0f jo0f jtj1 ?_ (fun hHeld=>?_)
      ·(first | (refine⟨?_,?_,?_,?_,?_,?_,?_,?_,?_⟩ <;> (first | with_reducible assumption | ((with_reducible refine Eq.trans (cell_drew _ _) ?_);with_reducible assumption) | ((repeat rw [World.cell?_setCell_far _ _ _ _ jck0]);with_reducible assumption) | go_keep)) | go_keep)
      refine jtk 0 ?_
      refine jtk 1 ?_
      refine jtk 2 ?_
      refine jtk 3 ?_
      refine jtk 4 ?_
      refine jtk 5 ?_
      refine jtk 6 ?_
      refine jtk 8 ?_
      refine jtk 9 ?_
      refine jtk 10 ?_
      refine wpAnyH_ready (rs := [7,11]) jo0f jupy ?_
      refine AllReadyH.cons rfl (fun Kz hKz=>?_) (AllReadyH.cons rfl (fun Kz hKz=>?_) AllReadyH.nil)
      ·go_simp
       refine hKz.out _ _ jz4y (fun hHeld=>?_)
       clear hKz Kz
       refine jsp ?_
       refine jrd 11 fun Kz hKz=>?_
       go_simp
       refine Calls.mono (pcin (c:=x) (i:=i) (HPr.out.below (Below.refl _ _).drew) j0i3 h1 j0i3 HC.out.1 HC2.out) ?_;rintro e w5 ⟨v,rfl,h,hb⟩;obtain⟨b5,A5,n5,c5,d5,B5,m5,k5,rfl,-,-,-,-,-⟩:=h.form;have hBw:=(show Below wr.heap.size wr w5 from jc22);have HE5:=Lib.hid (EQ.of (p:=true) (k:=49*k+26) h (inF_bq HPr.out h1 HC.out.1 HC2.out j0i3));have KS5:=Lib.hid (KSr.out.below hBw);have K65:=Lib.hid (K6r.out.below hBw);have KP5:=Lib.hid (KPr.out.below hBw);have HST5:=Lib.hid (HSTr.out.below hBw);have HB5:=Lib.hid (HBr.out.trans (hBw.mono HBr.out.size));have HS5:=Lib.hid (HSr.out.trans (St3.of_below hBw));have HRO5:=Lib.hid (HRO.out.below hBw);have ht5:=(hBw.cell (p:=⟨gs+1,i,none⟩) htl).trans ht;have htl5:=Nat.lt_of_lt_of_le htl hBw.size;obtain⟨s0',s1',s2',sl'⟩:=KS5.out.use3;obtain⟨q0',q1',q2',ql'⟩:=K65.out.use3;obtain⟨k0',k1',k2',k3',k4',kl'⟩:=KP5.out.use5;clear h hb hBw s0 s1 s2 sl q0 q1 q2 ql k0 k1 k2 k3 k4 kl ht htl
       refine hKz.out _ _ jz4y (fun hHeld=>?_)
       clear hKz Kz
       refine jsp ?_
       refine jrd 12 fun Kz hKz=>?_
       go_simp
       refine hKz.out _ _ jz4y (fun hHeld=>?_)
       clear hKz Kz
       refine jsp ?_
       refine jrd 13 fun Kz hKz=>?_
       refine step_append_rats3 rfl rfl (.tmp 47) (.tmp 52) rfl (base:=w1.heap.size) (n:=pre.length) (m:=1) (c:=1) (X:=XA i) (Y:=fun _=>⟨b5,A5,n5,c5,d5,B5,m5,k5⟩) rfl (OwnR.alloc_ HRO5.out _) rfl (rowAt_one w5 _ rfl ⟨b5,A5,n5,c5,d5,B5,m5,k5⟩) (fun e=>by cases e) j0i3 jov6 ?_;intro v8 w8 ho hf hgr;obtain⟨A8,c8,rfl,_⟩:=ho.rowAt;have HSA:=Lib.hid (HST5.out.alloc_ (.cells #[.bool b5,.slice A5 n5 c5,.bool d5,.slice B5 m5 k5] 36));have HG8:=Lib.hid hgr;have HF8:=Lib.hid hf;have HO8:=Lib.hid ho;have HX8:=Lib.hid (row_row (i:=i) (y:=⟨b5,A5,n5,c5,d5,B5,m5,k5⟩) HE5.out (HST5.out.rowE i hlt) hf (by rw [if_neg j0i3]));have KS8:=Lib.hid (Blk.fz (KS5.out.alloc_ _) hf jpu1);have K68:=Lib.hid (Blk.fz (K65.out.alloc_ _) hf jpu1);have KP8:=Lib.hid (Blk.fz (KP5.out.alloc_ _) hf jpu1);have HT8:=Lib.hid (show OwnT w8 w1.heap.size (.slice (some ⟨gs+1,0,none⟩) (rowsC p) (rowsC p)) (rowsC p) r from OwnN.fz HSA.out.tab hf jpu1);have HS8:=Lib.hid ((HS5.out.trans (St3.of_below (below_new _ _))).trans (St3.rat hf));have HB8:=Lib.hid (HB5.out.trans ((below_new w5 (.cells #[.bool b5,.slice A5 n5 c5,.bool d5,.slice B5 m5 k5] 36)).mono HB5.out.size));have ht8:=OwnT.at_ HT8.out hlt;rw [er] at ht8;have hfz8:=OwnN.frozenAt HT8.out i;have htl8:=OwnT.lt HT8.out;clear ho hf hgr HST5 KS5 K65 KP5 HS5 HB5 HE5 HRO5 ht5 htl5 s0' s1' s2' sl' q0' q1' q2' ql' k0' k1' k2' k3' k4' kl';obtain⟨s0,s1,s2,sl⟩:=KS8.out.use3;obtain⟨q0,q1,q2,ql⟩:=K68.out.use3;obtain⟨k0,k1,k2,k3,k4,kl⟩:=KP8.out.use5
       refine hKz.out _ _ jz4y (fun hHeld=>?_)
       clear hKz Kz
       refine jsp ?_
       refine jtk 14 ?_
       refine jrd 15 fun Kz hKz=>?_
       go_simp
       refine hKz.out _ _ jz4y (fun hHeld=>?_)
       clear hKz Kz
       refine jsp ?_
       (try simp only [Act.put,List.setIfInBounds_toArray,List.set_cons_zero,List.set_cons_succ,List.getElem_toArray,List.getElem_cons_succ,List.getElem_cons_zero])
       refine wpAnyH_done jo0f ?_ _
       obtain⟨g1,g2⟩:=HSA.out.appA hlt (by rw [er];exact HG8.out) HF8.out HO8.out HX8.out (v' := .slice A8 (pre.length+1) c8) nu rfl
       exact⟨⟨b5,A5,n5,c5,d5,B5,m5,k5⟩,⟨w5.heap.size,0,none⟩,A8,c8,rfl,⟨_,_,(g1.congrL (fun q hq=>by
        by_cases e:q=i
        ·subst e;rw [updR_at,if_pos j0i3]
        ·rw [updR_ne _ _ e]
         by_cases e2:q<i
         ·rw [if_pos e2,if_pos j0i3]
         ·rw [if_neg e2,if_neg j0i3])).congr (fun q hq j hj=>by
        by_cases e:q=i
        ·subst e;rw [updR_at]
        ·rw [updR_ne _ _ e]) (fun _ _=>rfl) (fun _ _=>rfl)⟩,KS8.out.other j0i3 _ _,HS8.out.trans (St3.row (OwnT.set1 HT8.out hlt (u := .slice A8 (pre.length+1) c8) nu rfl).2.1),HB8.out.trans g2⟩
      ·go_simp
       refine Calls.mono (pcin (c:=x) (i:=i) (HPr.out.below (Below.refl _ _).drew) j0i3 h1 j0i3 HC.out.1 HC2.out) ?_;rintro e w5 ⟨v,rfl,h,hb⟩;obtain⟨b5,A5,n5,c5,d5,B5,m5,k5,rfl,-,-,-,-,-⟩:=h.form;have hBw:=(show Below wr.heap.size wr w5 from jc22);have HE5:=Lib.hid (EQ.of (p:=true) (k:=49*k+26) h (inF_bq HPr.out h1 HC.out.1 HC2.out j0i3));have KS5:=Lib.hid (KSr.out.below hBw);have K65:=Lib.hid (K6r.out.below hBw);have KP5:=Lib.hid (KPr.out.below hBw);have HST5:=Lib.hid (HSTr.out.below hBw);have HB5:=Lib.hid (HBr.out.trans (hBw.mono HBr.out.size));have HS5:=Lib.hid (HSr.out.trans (St3.of_below hBw));have HRO5:=Lib.hid (HRO.out.below hBw);have ht5:=(hBw.cell (p:=⟨gs+1,i,none⟩) htl).trans ht;have htl5:=Nat.lt_of_lt_of_le htl hBw.size;obtain⟨s0',s1',s2',sl'⟩:=KS5.out.use3;obtain⟨q0',q1',q2',ql'⟩:=K65.out.use3;obtain⟨k0',k1',k2',k3',k4',kl'⟩:=KP5.out.use5;clear h hb hBw s0 s1 s2 sl q0 q1 q2 ql k0 k1 k2 k3 k4 kl ht htl
       refine hKz.out _ _ jz4y (fun hHeld=>?_)
       clear hKz Kz
       refine jsp ?_
       refine wpAnyH_ready (rs := [7,12]) jo0f jupy ?_
       refine AllReadyH.cons rfl (fun Kz hKz=>?_) (AllReadyH.cons rfl (fun Kz hKz=>?_) AllReadyH.nil)
       ·go_simp
        refine hKz.out _ _ jz4y (fun hHeld=>?_)
        clear hKz Kz
        refine jsp ?_
        refine jrd 12 fun Kz hKz=>?_
        go_simp
        refine hKz.out _ _ jz4y (fun hHeld=>?_)
        clear hKz Kz
        refine jsp ?_
        refine jrd 13 fun Kz hKz=>?_
        refine step_append_rats3 rfl rfl (.tmp 47) (.tmp 52) rfl (base:=w1.heap.size) (n:=pre.length) (m:=1) (c:=1) (X:=XA i) (Y:=fun _=>⟨b5,A5,n5,c5,d5,B5,m5,k5⟩) rfl (OwnR.alloc_ HRO5.out _) rfl (rowAt_one w5 _ rfl ⟨b5,A5,n5,c5,d5,B5,m5,k5⟩) (fun e=>by cases e) j0i3 jov6 ?_;intro v8 w8 ho hf hgr;obtain⟨A8,c8,rfl,_⟩:=ho.rowAt;have HSA:=Lib.hid (HST5.out.alloc_ (.cells #[.bool b5,.slice A5 n5 c5,.bool d5,.slice B5 m5 k5] 36));have HG8:=Lib.hid hgr;have HF8:=Lib.hid hf;have HO8:=Lib.hid ho;have HX8:=Lib.hid (row_row (i:=i) (y:=⟨b5,A5,n5,c5,d5,B5,m5,k5⟩) HE5.out (HST5.out.rowE i hlt) hf (by rw [if_neg j0i3]));have KS8:=Lib.hid (Blk.fz (KS5.out.alloc_ _) hf jpu1);have K68:=Lib.hid (Blk.fz (K65.out.alloc_ _) hf jpu1);have KP8:=Lib.hid (Blk.fz (KP5.out.alloc_ _) hf jpu1);have HT8:=Lib.hid (show OwnT w8 w1.heap.size (.slice (some ⟨gs+1,0,none⟩) (rowsC p) (rowsC p)) (rowsC p) r from OwnN.fz HSA.out.tab hf jpu1);have HS8:=Lib.hid ((HS5.out.trans (St3.of_below (below_new _ _))).trans (St3.rat hf));have HB8:=Lib.hid (HB5.out.trans ((below_new w5 (.cells #[.bool b5,.slice A5 n5 c5,.bool d5,.slice B5 m5 k5] 36)).mono HB5.out.size));have ht8:=OwnT.at_ HT8.out hlt;rw [er] at ht8;have hfz8:=OwnN.frozenAt HT8.out i;have htl8:=OwnT.lt HT8.out;clear ho hf hgr HST5 KS5 K65 KP5 HS5 HB5 HE5 HRO5 ht5 htl5 s0' s1' s2' sl' q0' q1' q2' ql' k0' k1' k2' k3' k4' kl';obtain⟨s0,s1,s2,sl⟩:=KS8.out.use3;obtain⟨q0,q1,q2,ql⟩:=K68.out.use3;obtain⟨k0,k1,k2,k3,k4,kl⟩:=KP8.out.use5
        refine hKz.out _ _ jz4y (fun hHeld=>?_)
        clear hKz Kz
        refine jsp ?_
        refine jtk 14 ?_
        refine jrd 15 fun Kz hKz=>?_
        go_simp
        refine hKz.out _ _ jz4y (fun hHeld=>?_)
        clear hKz Kz
        refine jsp ?_
        (try simp only [Act.put,List.setIfInBounds_toArray,List.set_cons_zero,List.set_cons_succ,List.getElem_toArray,List.getElem_cons_succ,List.getElem_cons_zero])
        refine wpAnyH_done jo0f ?_ _
        obtain⟨g1,g2⟩:=HSA.out.appA hlt (by rw [er];exact HG8.out) HF8.out HO8.out HX8.out (v' := .slice A8 (pre.length+1) c8) nu rfl
        exact⟨⟨b5,A5,n5,c5,d5,B5,m5,k5⟩,⟨w5.heap.size,0,none⟩,A8,c8,rfl,⟨_,_,(g1.congrL (fun q hq=>by
         by_cases e:q=i
         ·subst e;rw [updR_at,if_pos j0i3]
         ·rw [updR_ne _ _ e]
          by_cases e2:q<i
          ·rw [if_pos e2,if_pos j0i3]
          ·rw [if_neg e2,if_neg j0i3])).congr (fun q hq j hj=>by
         by_cases e:q=i
         ·subst e;rw [updR_at]
         ·rw [updR_ne _ _ e]) (fun _ _=>rfl) (fun _ _=>rfl)⟩,KS8.out.other j0i3 _ _,HS8.out.trans (St3.row (OwnT.set1 HT8.out hlt (u := .slice A8 (pre.length+1) c8) nu rfl).2.1),HB8.out.trans g2⟩
       ·go_simp
        refine hKz.out _ _ jz4y (fun hHeld=>?_)
        clear hKz Kz
        refine jsp ?_
        refine jrd 7 fun Kz hKz=>?_
        go_simp
        refine hKz.out _ _ jz4y (fun hHeld=>?_)
        clear hKz Kz
        refine jsp ?_
        refine jrd 13 fun Kz hKz=>?_
        refine step_append_rats3 rfl rfl (.tmp 47) (.tmp 52) rfl (base:=w1.heap.size) (n:=pre.length) (m:=1) (c:=1) (X:=XA i) (Y:=fun _=>⟨b5,A5,n5,c5,d5,B5,m5,k5⟩) rfl (OwnR.alloc_ HRO5.out _) rfl (rowAt_one w5 _ rfl ⟨b5,A5,n5,c5,d5,B5,m5,k5⟩) (fun e=>by cases e) j0i3 jov6 ?_;intro v8 w8 ho hf hgr;obtain⟨A8,c8,rfl,_⟩:=ho.rowAt;have HSA:=Lib.hid (HST5.out.alloc_ (.cells #[.bool b5,.slice A5 n5 c5,.bool d5,.slice B5 m5 k5] 36));have HG8:=Lib.hid hgr;have HF8:=Lib.hid hf;have HO8:=Lib.hid ho;have HX8:=Lib.hid (row_row (i:=i) (y:=⟨b5,A5,n5,c5,d5,B5,m5,k5⟩) HE5.out (HST5.out.rowE i hlt) hf (by rw [if_neg j0i3]));have KS8:=Lib.hid (Blk.fz (KS5.out.alloc_ _) hf jpu1);have K68:=Lib.hid (Blk.fz (K65.out.alloc_ _) hf jpu1);have KP8:=Lib.hid (Blk.fz (KP5.out.alloc_ _) hf jpu1);have HT8:=Lib.hid (show OwnT w8 w1.heap.size (.slice (some ⟨gs+1,0,none⟩) (rowsC p) (rowsC p)) (rowsC p) r from OwnN.fz HSA.out.tab hf jpu1);have HS8:=Lib.hid ((HS5.out.trans (St3.of_below (below_new _ _))).trans (St3.rat hf));have HB8:=Lib.hid (HB5.out.trans ((below_new w5 (.cells #[.bool b5,.slice A5 n5 c5,.bool d5,.slice B5 m5 k5] 36)).mono HB5.out.size));have ht8:=OwnT.at_ HT8.out hlt;rw [er] at ht8;have hfz8:=OwnN.frozenAt HT8.out i;have htl8:=OwnT.lt HT8.out;clear ho hf hgr HST5 KS5 K65 KP5 HS5 HB5 HE5 HRO5 ht5 htl5 s0' s1' s2' sl' q0' q1' q2' ql' k0' k1' k2' k3' k4' kl';obtain⟨s0,s1,s2,sl⟩:=KS8.out.use3;obtain⟨q0,q1,q2,ql⟩:=K68.out.use3;obtain⟨k0,k1,k2,k3,k4,kl⟩:=KP8.out.use5
        refine hKz.out _ _ jz4y (fun hHeld=>?_)
        clear hKz Kz
        refine jsp ?_
        refine jtk 14 ?_
        refine jrd 15 fun Kz hKz=>?_
        go_simp
        refine hKz.out _ _ jz4y (fun hHeld=>?_)
        clear hKz Kz
        refine jsp ?_
        (try simp only [Act.put,List.setIfInBounds_toArray,List.set_cons_zero,List.set_cons_succ,List.getElem_toArray,List.getElem_cons_succ,List.getElem_cons_zero])
        refine wpAnyH_done jo0f ?_ _
        obtain⟨g1,g2⟩:=HSA.out.appA hlt (by rw [er];exact HG8.out) HF8.out HO8.out HX8.out (v' := .slice A8 (pre.length+1) c8) nu rfl
        exact⟨⟨b5,A5,n5,c5,d5,B5,m5,k5⟩,⟨w5.heap.size,0,none⟩,A8,c8,rfl,⟨_,_,(g1.congrL (fun q hq=>by
         by_cases e:q=i
         ·subst e;rw [updR_at,if_pos j0i3]
         ·rw [updR_ne _ _ e]
          by_cases e2:q<i
          ·rw [if_pos e2,if_pos j0i3]
          ·rw [if_neg e2,if_neg j0i3])).congr (fun q hq j hj=>by
         by_cases e:q=i
         ·subst e;rw [updR_at]
         ·rw [updR_ne _ _ e]) (fun _ _=>rfl) (fun _ _=>rfl)⟩,KS8.out.other j0i3 _ _,HS8.out.trans (St3.row (OwnT.set1 HT8.out hlt (u := .slice A8 (pre.length+1) c8) nu rfl).2.1),HB8.out.trans g2⟩
     ·rintro a' W' ⟨y,ad,A9,c9,rfl,HST9,KS9,HS9,HB9⟩
      obtain⟨r9,XA9,HST9⟩:=HST9.out
      clear s0 s1 s2 sl q0 q1 q2 ql k0 k1 k2 k3 k4 kl ht htl er ER HRO HSTr KSr HSr HBr KPr HPr K6r
      have HST9:=Lib.hid HST9
      simp only [Act.put,List.setIfInBounds_toArray,List.set_cons_zero,List.set_cons_succ,List.getElem_toArray,List.getElem_cons_succ,List.getElem_cons_zero]
      gi_wp2
      go_roundw
      case rel=>exact⟨i+1,r9,XA9,by go_num,by omega,HST9.out,KS9.out,HS9.out,HB9.out⟩
      case measure=>simp [intOf];omega
    ·have hiM:i=rowsC p:=by omega
     have KBr:=Lib.hid (HSr.out.blk KB.out jpu1 jpu1 jpu1)
     gi_wp2
     exact⟨⟨HSr.out.def_ HD.out,HSr.out.loop_ HL.out⟩,HSr.out.kpI,stdI_snoc (HSTr.out.congrL (fun q hq=>by rw [if_pos j0i3])) KSr.out KBr.out HBr.out⟩
 case done =>
  rintro xs W rfl hi hd
  obtain⟨r,XA,XB,XC,Aq,cq,hst,hks,hkb,hbl⟩:=hi
  have hcl:(colL p).length≤80:=by
   have:=colL_len p
   have:=HMX.out.1
   omega
  have HST:=Lib.hid hst
  have KS:=Lib.hid hks
  have HBL:=Lib.hid hbl
  have HD:=Lib.hid (show W.heap[w4.heap.size+1]? = some (.deferred (some [])) from by have:=hd;rw [World.size_alloc] at this;exact this)
  clear hst hks hkb hbl hd HI0
  have hrc:=HRC.out
  obtain⟨s0,s1,s2,sl⟩:=KS.out.use3
  gi_wp2
  refine⟨trivial,?_⟩
  refine(callsIn_wide.2 (pturn HST.out HBL.out.size j0i3 j0i3 j0i3 j0i3)).mono ?_
  rintro e W2 ⟨⟨vx,rfl⟩,⟨XA2,XB2,hst2⟩,hb2⟩
  have HST2:=Lib.hid (hst2.congr (fun i hi j hj=>std_eq p i j) (fun i hi=>rfl) (fun j hj=>rfl))
  have KS2:=Lib.hid (hb2.blk KS.out jpu1)
  have HB2:=Lib.hid (HBL.out.trans hb2.below)
  have HD2:=Lib.hid (hb2.ro _ _ HD.out (fun cs m e=>by cases e))
  clear hst2 hb2 HST KS HBL HD s0 s1 s2 sl
  have KP2:=Lib.hid (K1.out.below HB2.out)
  have HP2:=Lib.hid (HP1.out.below HB2.out)
  obtain⟨k0,k1,k2,k3,k4,kl⟩:=KP2.out.use5
  have HQ:Hid (RowQ false k W2 (.slice Ac p.cost.n cc) p.cost.n p.cost.q∧RowQ false k W2 (.slice Al p.lo.n cl) p.cost.n p.lo.q):=by
   obtain⟨_,_,_,_,_,e0,h1,_,h3,_,_⟩:=HP2.out
   simp only [Value.agg.injEq,Array.mk.injEq,List.cons.injEq,and_true] at e0
   obtain⟨rfl,_,rfl,_,_⟩:=e0
   refine⟨h1.rowQ,?_⟩
   have:=h3.rowQ
   have hl:=HMX.out.1.2.2.2.1
   rw [hl] at this ⊢
   exact this
  have HK:Hid (∀i,i≤p.cost.n→BQ (1+24*(k+k+1)) (dotF p.cost.q p.lo.q i)):=row_dot HQ.out.1 HQ.out.2 (Nat.le_refl _) h1 h1 HMX.out.1.2.1
  gi_wp2
  refine⟨trivial,?_⟩
  refine(callsIn_wide.2 (ldot HQ.out.1 HQ.out.2 j0i3 j0i3 h1 h1 HK.out j0i3 j0i3)).mono ?_
  rintro e W3 ⟨vx,rfl,h,hb⟩
  obtain⟨b9,A9,n9,c9,d9,B9,m9,k9,rfl,-,-,-,-,-⟩:=h.form
  have HST3:=Lib.hid (HST2.out.below hb)
  have KS3:=Lib.hid (KS2.out.below hb)
  have HB3:=Lib.hid (HB2.out.trans (hb.mono HB2.out.size))
  have HD3:=Lib.hid ((hb.block _ (Array.getElem?_eq_some_iff.1 HD2.out).1).trans HD2.out)
  have HR3:=Lib.hid h
  have KA3:=Lib.hid (KA1.out.below HB3.out)
  have KR3:=Lib.hid (KR1.out.below HB3.out)
  clear h hb HST2 KS2 HB2 HD2 KP2 HP2 HQ HK k0 k1 k2 k3 k4 kl
  obtain⟨s0,s1,s2,sl⟩:=KS3.out.use3
  obtain⟨a0,a1,a2,al⟩:=KA3.out.use3
  obtain⟨f0,f1,f2⟩:=KA3.out.into3
  obtain⟨r0,r1,r2,r3,rl⟩:=KR3.out.use4
  obtain⟨f3,f4,f5,f6⟩:=KR3.out.into4
  gi_wp2
  obtain⟨W4,hW⟩ : ∃W,W=W3.alloc (.cells #[.bool b9,.slice A9 n9 c9,.bool d9,.slice B9 m9 k9] 36):=⟨_,rfl⟩
  rw [← hW]
  have hb4:Below W3.heap.size W3 W4:=hW▸below_new _ _
  have K8:=Lib.hid (show Blk W4 W3.heap.size 36 #[.bool b9,.slice A9 n9 c9,.bool d9,.slice B9 m9 k9] from hW▸Blk.new _ _ rfl _ _)
  have HST4:=Lib.hid (HST3.out.below hb4)
  have KS4:=Lib.hid (KS3.out.below hb4)
  have HB4:=Lib.hid (HB3.out.trans (hb4.mono HB3.out.size))
  have HD4:=Lib.hid ((hb4.block _ (Array.getElem?_eq_some_iff.1 HD3.out).1).trans HD3.out)
  have HR4:=Lib.hid (HR3.out.kp (.of_below hb4))
  have KA4:=Lib.hid (KA3.out.below hb4)
  have KR4:=Lib.hid (KR3.out.below hb4)
  have HGS':=HGS.out
  have hk1:=K1.out.lt
  have hka:=KA1.out.lt
  have hkr:=KR1.out.lt
  have hb3s:=HB3.out.size
  have hm1:w.heap.size+1≠gs := j0i3
  have hm2:w.heap.size+1+1≠gs := j0i3
  have hm3:w.heap.size+1≠W3.heap.size := j0i3
  have hm4:w.heap.size+1+1≠W3.heap.size := j0i3
  clear hW hb4 HST3 KS3 HB3 HD3 HR3 KA3 KR3 s0 s1 s2 sl a0 a1 a2 al f0 f1 f2 r0 r1 r2 r3 rl f3 f4 f5 f6
  obtain⟨s0,s1,s2,sl⟩:=KS4.out.use3
  obtain⟨q0,q1,q2,q3,ql⟩:=K8.out.use4
  obtain⟨a0,a1,a2,al⟩:=KA4.out.use3
  obtain⟨f0,f1,f2⟩:=KA4.out.into3
  obtain⟨r0,r1,r2,r3,rl⟩:=KR4.out.use4
  obtain⟨f3,f4,f5,f6⟩:=KR4.out.into4
  refine region_cut_f (fun a a' W'=>a'=((a.put (some 66) (.agg #[.slice (some ⟨gs+1,0,none⟩) (rowsC p) (rowsC p),.slice Ab (rowsC p) cb,.slice Aq (colL p).length cq])).put (some 67) (.agg #[.bool b9,.slice A9 n9 c9,.bool d9,.slice B9 m9 k9])).put (some 4) (.int .i64 0)∧W'=((((((((W4.setCell ⟨w.heap.size+1,0,none⟩ (.slice (some ⟨gs+1,0,none⟩) (rowsC p) (rowsC p))).setCell ⟨w.heap.size+1,1,none⟩ (.slice Ab (rowsC p) cb)).setCell ⟨w.heap.size+1,2,none⟩ (.slice Aq (colL p).length cq)).setCell ⟨w.heap.size+1+1,0,none⟩ (.bool b9)).setCell ⟨w.heap.size+1+1,1,none⟩ (.slice A9 n9 c9)).setCell ⟨w.heap.size+1+1,2,none⟩ (.bool d9)).setCell ⟨w.heap.size+1+1,3,none⟩ (.slice B9 m9 k9)).drew)) ?_ ?_
  ·refine wpIn_wide.2 ?_
   refine wp_region_held_drew (S:=(fun w'=>w'.cell? ⟨gs,0,none⟩=some (.slice (some ⟨gs+1,0,none⟩) (rowsC p) (rowsC p))∧w'.cell? ⟨gs,1,none⟩=some (.slice Ab (rowsC p) cb)∧w'.cell? ⟨gs,2,none⟩=some (.slice Aq (colL p).length cq)∧w'.cell? ⟨W3.heap.size,0,none⟩=some (.bool b9)∧w'.cell? ⟨W3.heap.size,1,none⟩=some (.slice A9 n9 c9)∧w'.cell? ⟨W3.heap.size,2,none⟩=some (.bool d9)∧w'.cell? ⟨W3.heap.size,3,none⟩=some (.slice B9 m9 k9))) jo0f ?_ (fun hHeld=>?_)
   ·(first | (refine⟨?_,?_,?_,?_,?_,?_,?_⟩ <;> (first | with_reducible assumption | ((with_reducible refine Eq.trans (cell_drew _ _) ?_);with_reducible assumption) | ((repeat rw [World.cell?_setCell_far _ _ _ _ jbry]);with_reducible assumption) | go_keep)) | go_keep)
   refine jtk 0 ?_
   refine jtk 1 ?_
   refine jrd 2 fun Kz hKz=>?_
   go_simp
   refine hKz.out _ _ jypa (fun hHeld=>?_)
   clear hKz Kz
   refine jsp ?_
   refine jrd 3 fun Kz hKz=>?_
   go_simp
   refine hKz.out _ _ jypa (fun hHeld=>?_)
   clear hKz Kz
   refine jsp ?_
   refine jtk 4 ?_
   (try simp only [Act.put,List.setIfInBounds_toArray,List.set_cons_zero,List.set_cons_succ,List.getElem_toArray,List.getElem_cons_succ,List.getElem_cons_zero])
   refine wpAnyH_done jo0f ?_ _
   exact⟨rfl,rfl⟩
  ·rintro a' W5 ⟨rfl,hW5⟩
   simp only [Act.put,List.setIfInBounds_toArray,List.set_cons_zero,List.set_cons_succ,List.getElem_toArray,List.getElem_cons_succ,List.getElem_cons_zero]
   have hgA:w.heap.size+1<w1.heap.size:=hka
   have hgR:w.heap.size+1+1<w1.heap.size:=hkr
   have hb0:Below w.heap.size w W4:=HB1.out.trans (HB4.out.mono HB1.out.size)
   have b0:Blk W4 (w.heap.size+1) 31 #[.slice none 0 0,.slice none 0 0,.slice none 0 0]:=KA4.out
   have e0:Blk W4 (w.heap.size+1+1) 36 #[.bool false,.slice none 0 0,.bool false,.slice none 0 0]:=KR4.out
   have l0:Lo w1.heap.size (W4) (W4.setCell ⟨w.heap.size+1,0,none⟩ (.slice (some ⟨gs+1,0,none⟩) (rowsC p) (rowsC p))):=lo_cell b0 (nu3 nu nu nu) hgA
   have hb1:Below w.heap.size w (W4.setCell ⟨w.heap.size+1,0,none⟩ (.slice (some ⟨gs+1,0,none⟩) (rowsC p) (rowsC p))):=Below.setCell hb0 jupy _
   have b1:=b0.set_ 0 (.slice (some ⟨gs+1,0,none⟩) (rowsC p) (rowsC p))
   have e1:=e0.other (show w.heap.size+1+1≠w.heap.size+1 by omega) 0 (.slice (some ⟨gs+1,0,none⟩) (rowsC p) (rowsC p))
   have l1:Lo w1.heap.size ((W4.setCell ⟨w.heap.size+1,0,none⟩ (.slice (some ⟨gs+1,0,none⟩) (rowsC p) (rowsC p)))) ((W4.setCell ⟨w.heap.size+1,0,none⟩ (.slice (some ⟨gs+1,0,none⟩) (rowsC p) (rowsC p))).setCell ⟨w.heap.size+1,1,none⟩ (.slice Ab (rowsC p) cb)):=lo_cell b1 (nu3 nu nu nu) hgA
   have hb2:Below w.heap.size w ((W4.setCell ⟨w.heap.size+1,0,none⟩ (.slice (some ⟨gs+1,0,none⟩) (rowsC p) (rowsC p))).setCell ⟨w.heap.size+1,1,none⟩ (.slice Ab (rowsC p) cb)):=Below.setCell hb1 jupy _
   have b2:=b1.set_ 1 (.slice Ab (rowsC p) cb)
   have e2:=e1.other (show w.heap.size+1+1≠w.heap.size+1 by omega) 1 (.slice Ab (rowsC p) cb)
   have l2:Lo w1.heap.size (((W4.setCell ⟨w.heap.size+1,0,none⟩ (.slice (some ⟨gs+1,0,none⟩) (rowsC p) (rowsC p))).setCell ⟨w.heap.size+1,1,none⟩ (.slice Ab (rowsC p) cb))) (((W4.setCell ⟨w.heap.size+1,0,none⟩ (.slice (some ⟨gs+1,0,none⟩) (rowsC p) (rowsC p))).setCell ⟨w.heap.size+1,1,none⟩ (.slice Ab (rowsC p) cb)).setCell ⟨w.heap.size+1,2,none⟩ (.slice Aq (colL p).length cq)):=lo_cell b2 (nu3 nu nu nu) hgA
   have hb3:Below w.heap.size w (((W4.setCell ⟨w.heap.size+1,0,none⟩ (.slice (some ⟨gs+1,0,none⟩) (rowsC p) (rowsC p))).setCell ⟨w.heap.size+1,1,none⟩ (.slice Ab (rowsC p) cb)).setCell ⟨w.heap.size+1,2,none⟩ (.slice Aq (colL p).length cq)):=Below.setCell hb2 jupy _
   have b3:=b2.set_ 2 (.slice Aq (colL p).length cq)
   have e3:=e2.other (show w.heap.size+1+1≠w.heap.size+1 by omega) 2 (.slice Aq (colL p).length cq)
   have l3:Lo w1.heap.size ((((W4.setCell ⟨w.heap.size+1,0,none⟩ (.slice (some ⟨gs+1,0,none⟩) (rowsC p) (rowsC p))).setCell ⟨w.heap.size+1,1,none⟩ (.slice Ab (rowsC p) cb)).setCell ⟨w.heap.size+1,2,none⟩ (.slice Aq (colL p).length cq))) ((((W4.setCell ⟨w.heap.size+1,0,none⟩ (.slice (some ⟨gs+1,0,none⟩) (rowsC p) (rowsC p))).setCell ⟨w.heap.size+1,1,none⟩ (.slice Ab (rowsC p) cb)).setCell ⟨w.heap.size+1,2,none⟩ (.slice Aq (colL p).length cq)).setCell ⟨w.heap.size+1+1,0,none⟩ (.bool b9)):=lo_cell e3 (nu4 nu nu nu nu) hgR
   have hb4:Below w.heap.size w ((((W4.setCell ⟨w.heap.size+1,0,none⟩ (.slice (some ⟨gs+1,0,none⟩) (rowsC p) (rowsC p))).setCell ⟨w.heap.size+1,1,none⟩ (.slice Ab (rowsC p) cb)).setCell ⟨w.heap.size+1,2,none⟩ (.slice Aq (colL p).length cq)).setCell ⟨w.heap.size+1+1,0,none⟩ (.bool b9)):=Below.setCell hb3 jb6b _
   have e4:=e3.set_ 0 (.bool b9)
   have b4:=b3.other (show w.heap.size+1≠w.heap.size+1+1 by omega) 0 (.bool b9)
   have l4:Lo w1.heap.size (((((W4.setCell ⟨w.heap.size+1,0,none⟩ (.slice (some ⟨gs+1,0,none⟩) (rowsC p) (rowsC p))).setCell ⟨w.heap.size+1,1,none⟩ (.slice Ab (rowsC p) cb)).setCell ⟨w.heap.size+1,2,none⟩ (.slice Aq (colL p).length cq)).setCell ⟨w.heap.size+1+1,0,none⟩ (.bool b9))) (((((W4.setCell ⟨w.heap.size+1,0,none⟩ (.slice (some ⟨gs+1,0,none⟩) (rowsC p) (rowsC p))).setCell ⟨w.heap.size+1,1,none⟩ (.slice Ab (rowsC p) cb)).setCell ⟨w.heap.size+1,2,none⟩ (.slice Aq (colL p).length cq)).setCell ⟨w.heap.size+1+1,0,none⟩ (.bool b9)).setCell ⟨w.heap.size+1+1,1,none⟩ (.slice A9 n9 c9)):=lo_cell e4 (nu4 nu nu nu nu) hgR
   have hb5:Below w.heap.size w (((((W4.setCell ⟨w.heap.size+1,0,none⟩ (.slice (some ⟨gs+1,0,none⟩) (rowsC p) (rowsC p))).setCell ⟨w.heap.size+1,1,none⟩ (.slice Ab (rowsC p) cb)).setCell ⟨w.heap.size+1,2,none⟩ (.slice Aq (colL p).length cq)).setCell ⟨w.heap.size+1+1,0,none⟩ (.bool b9)).setCell ⟨w.heap.size+1+1,1,none⟩ (.slice A9 n9 c9)):=Below.setCell hb4 jb6b _
   have e5:=e4.set_ 1 (.slice A9 n9 c9)
   have b5:=b4.other (show w.heap.size+1≠w.heap.size+1+1 by omega) 1 (.slice A9 n9 c9)
   have l5:Lo w1.heap.size ((((((W4.setCell ⟨w.heap.size+1,0,none⟩ (.slice (some ⟨gs+1,0,none⟩) (rowsC p) (rowsC p))).setCell ⟨w.heap.size+1,1,none⟩ (.slice Ab (rowsC p) cb)).setCell ⟨w.heap.size+1,2,none⟩ (.slice Aq (colL p).length cq)).setCell ⟨w.heap.size+1+1,0,none⟩ (.bool b9)).setCell ⟨w.heap.size+1+1,1,none⟩ (.slice A9 n9 c9))) ((((((W4.setCell ⟨w.heap.size+1,0,none⟩ (.slice (some ⟨gs+1,0,none⟩) (rowsC p) (rowsC p))).setCell ⟨w.heap.size+1,1,none⟩ (.slice Ab (rowsC p) cb)).setCell ⟨w.heap.size+1,2,none⟩ (.slice Aq (colL p).length cq)).setCell ⟨w.heap.size+1+1,0,none⟩ (.bool b9)).setCell ⟨w.heap.size+1+1,1,none⟩ (.slice A9 n9 c9)).setCell ⟨w.heap.size+1+1,2,none⟩ (.bool d9)):=lo_cell e5 (nu4 nu nu nu nu) hgR
   have hb6:Below w.heap.size w ((((((W4.setCell ⟨w.heap.size+1,0,none⟩ (.slice (some ⟨gs+1,0,none⟩) (rowsC p) (rowsC p))).setCell ⟨w.heap.size+1,1,none⟩ (.slice Ab (rowsC p) cb)).setCell ⟨w.heap.size+1,2,none⟩ (.slice Aq (colL p).length cq)).setCell ⟨w.heap.size+1+1,0,none⟩ (.bool b9)).setCell ⟨w.heap.size+1+1,1,none⟩ (.slice A9 n9 c9)).setCell ⟨w.heap.size+1+1,2,none⟩ (.bool d9)):=Below.setCell hb5 jb6b _
   have e6:=e5.set_ 2 (.bool d9)
   have b6:=b5.other (show w.heap.size+1≠w.heap.size+1+1 by omega) 2 (.bool d9)
   have l6:Lo w1.heap.size (((((((W4.setCell ⟨w.heap.size+1,0,none⟩ (.slice (some ⟨gs+1,0,none⟩) (rowsC p) (rowsC p))).setCell ⟨w.heap.size+1,1,none⟩ (.slice Ab (rowsC p) cb)).setCell ⟨w.heap.size+1,2,none⟩ (.slice Aq (colL p).length cq)).setCell ⟨w.heap.size+1+1,0,none⟩ (.bool b9)).setCell ⟨w.heap.size+1+1,1,none⟩ (.slice A9 n9 c9)).setCell ⟨w.heap.size+1+1,2,none⟩ (.bool d9))) (((((((W4.setCell ⟨w.heap.size+1,0,none⟩ (.slice (some ⟨gs+1,0,none⟩) (rowsC p) (rowsC p))).setCell ⟨w.heap.size+1,1,none⟩ (.slice Ab (rowsC p) cb)).setCell ⟨w.heap.size+1,2,none⟩ (.slice Aq (colL p).length cq)).setCell ⟨w.heap.size+1+1,0,none⟩ (.bool b9)).setCell ⟨w.heap.size+1+1,1,none⟩ (.slice A9 n9 c9)).setCell ⟨w.heap.size+1+1,2,none⟩ (.bool d9)).setCell ⟨w.heap.size+1+1,3,none⟩ (.slice B9 m9 k9)):=lo_cell e6 (nu4 nu nu nu nu) hgR
   have hb7:Below w.heap.size w (((((((W4.setCell ⟨w.heap.size+1,0,none⟩ (.slice (some ⟨gs+1,0,none⟩) (rowsC p) (rowsC p))).setCell ⟨w.heap.size+1,1,none⟩ (.slice Ab (rowsC p) cb)).setCell ⟨w.heap.size+1,2,none⟩ (.slice Aq (colL p).length cq)).setCell ⟨w.heap.size+1+1,0,none⟩ (.bool b9)).setCell ⟨w.heap.size+1+1,1,none⟩ (.slice A9 n9 c9)).setCell ⟨w.heap.size+1+1,2,none⟩ (.bool d9)).setCell ⟨w.heap.size+1+1,3,none⟩ (.slice B9 m9 k9)):=Below.setCell hb6 jb6b _
   have e7:=e6.set_ 3 (.slice B9 m9 k9)
   have b7:=b6.other (show w.heap.size+1≠w.heap.size+1+1 by omega) 3 (.slice B9 m9 k9)
   have hlo:Lo w1.heap.size W4 W5:=by rw [hW5];exact(((((((l0.trans l1).trans l2).trans l3).trans l4).trans l5).trans l6).trans lo_drew)
   have BA:Blk W5 (w.heap.size+1) 31 #[(.slice (some ⟨gs+1,0,none⟩) (rowsC p) (rowsC p)),(.slice Ab (rowsC p) cb),(.slice Aq (colL p).length cq)]:=by rw [hW5];exact b7.drew_
   have BR:Blk W5 (w.heap.size+1+1) 36 #[.bool b9,.slice A9 n9 c9,.bool d9,.slice B9 m9 k9]:=by rw [hW5];exact e7.drew_
   have HB5:Below w.heap.size w W5:=by rw [hW5];exact hb7.drew
   clear hW5 b0 b1 b2 b3 b4 b5 b6 b7 e0 e1 e2 e3 e4 e5 e6 e7 l0 l1 l2 l3 l4 l5 l6 hb0 hb1 hb2 hb3 hb4 hb5 hb6 hb7
   have HST5:=Lib.hid (hlo.std HST4.out)
   have HR5:=Lib.hid (HR4.out.kp hlo.1)
   have HD5:=Lib.hid ((hlo.2.2 _ (by have:=HGS.out;omega)).trans HD4.out)
   clear hlo HST4 HR4 HD4 KA4 KR4 HB4 KS4 K8 s0 s1 s2 sl q0 q1 q2 q3 ql a0 a1 a2 al f0 f1 f2 r0 r1 r2 r3 rl f3 f4 f5 f6
   gi_wp2
   refine⟨by simp,.inl ⟨_,_,rfl,run_takeDeferred HD5.out,?_⟩⟩
   have hnc : ∀c t m,(Obj.deferred (some []))≠ .cells c t m:=fun c t m e=>by cases e
   have HS6:=Lib.hid ((HST5.out.putN HD5.out hnc (.deferred none)).stdQ j0i3 j0i3)
   have HR6:=Lib.hid (HR5.out.kp (kp_putN HD5.out hnc (.deferred none)))
   have HB6:=Lib.hid (put_belowW (w:=w) (l:=w4.heap.size+1) (.deferred none) (by have:=HGS.out;have:=HB1.out.size;omega) HB5)
   obtain⟨x0,x1,x2,-⟩:=(BA.putN HD5.out hnc (.deferred none)).use3
   obtain⟨x3,x4,x5,x6,-⟩:=(BR.putN HD5.out hnc (.deferred none)).use4
   exact⟨.tuple #[(.agg #[.slice (some ⟨gs+1,0,none⟩) (rowsC p) (rowsC p),.slice Ab (rowsC p) cb,.slice Aq (colL p).length cq]),(.agg #[.bool b9,.slice A9 n9 c9,.bool d9,.slice B9 m9 k9]),.int .i64 0],by simp [results,Tryz.results11,go_sem,x0,x1,x2,x3,x4,x5,x6],_,_,rfl,HS6.out,HR6.out,HB6.out⟩
 case stop=>exact fun _ _ _ _ h=>h.elim
end Go.Proofs.YtgilnmhejjpleaaGreat
