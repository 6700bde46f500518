/- Rows and tables of fractions in memory; rows of one's own whose block holds no limb; frames. -/
import Derived.Test.YtgilnmhejjpleaaGreatPRin
import Derived.Laws.AppendOwn
import Derived.Laws.OwnMore
import Derived.Deep.RegionLaw
import Derived.Lib.AppendZeros
namespace Go.Proofs.YtgilnmhejjpleaaGreat
open Go.RowKit
set_option linter.unusedSimpArgs false
set_option linter.unusedVariables false
theorem j4vm {P:Prop}(h:P:=by cases e):P:=h
theorem j74y {P:Prop}(h:P:=by rw [add_block]; exact h4):P:=h
structure RatD where
 b:Bool
 A:Option Addr
 n:Nat
 c:Nat
 b':Bool
 A':Option Addr
 n':Nat
 c':Nat
abbrev RatD.val(x:RatD):Value := .agg #[.bool x.b,.slice x.A x.n x.c,.bool x.b',.slice x.A' x.n' x.c']
def ratL(x:RatD):List Value := [.bool x.b,.slice x.A x.n x.c,.bool x.b',.slice x.A' x.n' x.c']
def ratZ:RatD:=⟨false,none,0,0,false,none,0,0⟩
def RatAt(w:World)(a:Addr)(x:RatD):Prop :=
 a.block<w.heap.size∧w.cell? a=some (.bool x.b)∧w.cell? ⟨a.block,a.off+1,none⟩=some (.slice x.A x.n x.c)∧w.cell? ⟨a.block,a.off+2,none⟩=some (.bool x.b')∧w.cell? ⟨a.block,a.off+3,none⟩=some (.slice x.A' x.n' x.c')
def RowAt(w:World)(A:Option Addr)(n:Nat)(X:Nat→RatD):Prop := ∀i,i<n→∃ad,A=some ad∧RatAt w (ad.add (i*4)) (X i)
def EQ(p:Bool)(k:Nat)(w:World)(v:Value)(q:Rat):Prop:=(p=true→IsRat w v q∧BQ k q)∧LimQ k w v q
def Kp(w w':World):Prop:=w.heap.size≤w'.heap.size∧∀a z,w.cell? a=some (.int .u32 z)→w'.cell? a=some (.int .u32 z)
section
variable {p:Bool} {k l n:Nat} {w w' w'':World} {v:Value} {q:Rat} {A:Option Addr} {f:Nat→Nat} {X Y:Int} {N:Nat}
theorem Kp.refl(w:World):Kp w w:=⟨Nat.le_refl _,fun _ _ h=>h⟩
theorem Kp.trans(h:Kp w w')(h':Kp w' w''):Kp w w'':=⟨Nat.le_trans h.1 h'.1,fun a z e=>h'.2 a z (h.2 a z e)⟩
theorem Kp.of_below(h:Below w.heap.size w w'):Kp w w':=⟨h.size,fun a z e=>(h.cell (block_lt_of_cell e)).trans e⟩
theorem Rd.kp(h:Rd .u32 w A n f)(hk:Kp w w'):Rd .u32 w' A n f:=fun j hj=>by
 obtain⟨ad,e,hc⟩:=h j hj
 exact⟨ad,e,hk.2 _ _ hc⟩
theorem Lim.kp(h:Lim k w v N)(hk:Kp w w'):Lim k w' v N:=by
 obtain⟨A,n,c,f,h1,h2,h3,h4⟩:=h
 exact⟨A,n,c,f,h1,h2,h3.kp hk,h4⟩
theorem IsNat.kp(h:IsNat w v N)(hk:Kp w w'):IsNat w' v N:=by
 obtain⟨A,n,c,f,h1,h2,h3,h4⟩:=h
 exact⟨A,n,c,f,h1,h2,h3.kp hk,h4⟩
theorem LimI.kp(h:LimI k w v X)(hk:Kp w w'):LimI k w' v X:=by
 obtain⟨b,m,N,h1,h2,h3⟩:=h
 exact⟨b,m,N,h1,h2.kp hk,h3⟩
theorem IsInt.kp(h:IsInt w v X)(hk:Kp w w'):IsInt w' v X:=by
 obtain⟨m,h1,h2⟩:=h
 exact⟨m,h1,h2.kp hk⟩
theorem LimR.kp(h:LimR k w v X Y)(hk:Kp w w'):LimR k w' v X Y:=by
 obtain⟨b,m,b',m',h0,h1,h2⟩:=h
 exact⟨b,m,b',m',h0,h1.kp hk,h2.kp hk⟩
theorem LimQ.kp(h:LimQ k w v q)(hk:Kp w w'):LimQ k w' v q:=by
 obtain⟨X,Y,h1,h2⟩:=h
 exact⟨X,Y,h1.kp hk,h2⟩
theorem IsRat.kp(h:IsRat w v q)(hk:Kp w w'):IsRat w' v q:=by
 obtain⟨b,m,b',m',h0,h1,h2⟩:=h
 exact⟨b,m,b',m',h0,h1.kp hk,h2.kp hk⟩
theorem EQ.kp(h:EQ p k w v q)(hk:Kp w w'):EQ p k w' v q:=⟨fun e=>⟨(h.1 e).1.kp hk,(h.1 e).2⟩,h.2.kp hk⟩
theorem EQ.below(h:EQ p k w v q)(hb:Below w.heap.size w w'):EQ p k w' v q:=h.kp (.of_below hb)
theorem EQ.of(h:IsRat w v q)(hb:BQ k q):EQ p k w v q:=⟨fun _=>⟨h,hb⟩,h.limQ hb⟩
theorem EQ.lim(h:LimQ k w v q):EQ false k w v q:=⟨fun e => j4vm,h⟩
theorem IsRat.parts(h:IsRat w v q) : ∃x:RatD,v=x.val:=by
 obtain⟨b,A,n,c,b',A',n',c',rfl,-⟩:=h.form
 exact⟨⟨b,A,n,c,b',A',n',c'⟩,rfl⟩
theorem LimQ.parts(h:LimQ k w v q) : ∃x:RatD,v=x.val:=by
 obtain⟨X,Y,h,-⟩:=h
 obtain⟨b,A,n,c,b',A',n',c',rfl,-⟩:=h.form
 exact⟨⟨b,A,n,c,b',A',n',c'⟩,rfl⟩
theorem RatAt.below {a:Addr} {x:RatD}(h:RatAt w a x)(hb:Below w.heap.size w w'):RatAt w' a x:=by
 obtain⟨h0,h1,h2,h3,h4⟩:=h
 have hk : ∀j,(⟨a.block,a.off+j,none⟩:Addr).block<w.heap.size:=fun j=>h0
 exact⟨Nat.lt_of_lt_of_le h0 hb.size,(hb.cell h0).trans h1,(hb.cell (hk 1)).trans h2,(hb.cell (hk 2)).trans h3,(hb.cell (hk 3)).trans h4⟩
theorem RatAt.of_block {a:Addr} {x:RatD}(h:RatAt w a x)(hb:w'.heap[a.block]? = w.heap[a.block]?):RatAt w' a x:=by
 obtain⟨h0,h1,h2,h3,h4⟩:=h
 have e : ∀ (b:Addr) (u:Value),b.block=a.block→w.cell? b=some u→w'.cell? b=some u:=fun b u hb' hu=>(World.cell?_of_block (by rw [hb'];exact hb)).trans hu
 refine⟨?_,e _ _ rfl h1,e _ _ rfl h2,e _ _ rfl h3,e _ _ rfl h4⟩
 rw [Array.getElem?_eq_getElem h0] at hb
 exact(Array.getElem?_eq_some_iff.1 hb).1
end
def Fits(A:Option Addr)(n c:Nat):Prop:=n≤c∧(A=none→c=0)
def RowQ(p:Bool)(k:Nat)(w:World)(v:Value)(n:Nat)(f:Nat→Rat):Prop :=
 ∃A c X,v = .slice A n c∧Fits A n c∧n≤1000000∧RowAt w A n X∧∀i,i<n→EQ p k w (X i).val (f i)
def RowT(p:Bool)(k:Nat)(w:World)(v:Value)(n:Nat)(f:Nat→Rat):Prop :=
 ∃A c X,v = .slice A n c∧Fits A n c∧n≤1000000∧RowAt w A n X∧(∀i,i<n→EQ p k w (X i).val (f i))∧∀a,A=some a→∃cs m,w.heap[a.block]? = some (.cells cs 36 m)
section
variable {p:Bool} {k l n:Nat} {w w':World} {v:Value} {f g:Nat→Rat}
theorem RowT.rowQ(h:RowT p k w v n f):RowQ p k w v n f:=by
 obtain⟨A,c,X,h0,h1,h2,h3,h4,_⟩:=h
 exact⟨A,c,X,h0,h1,h2,h3,h4⟩
theorem RowAt.below {A:Option Addr} {X:Nat→RatD}(h:RowAt w A n X)(hb:Below w.heap.size w w'):RowAt w' A n X:=fun i hi=>by
 obtain⟨ad,e,h1⟩:=h i hi
 exact⟨ad,e,h1.below hb⟩
theorem RowQ.below(h:RowQ p k w v n f)(hb:Below w.heap.size w w'):RowQ p k w' v n f:=by
 obtain⟨A,c,X,h0,h1,h2,h3,h4⟩:=h
 exact⟨A,c,X,h0,h1,h2,h3.below hb,fun i hi=>(h4 i hi).below hb⟩
theorem RowT.below(h:RowT p k w v n f)(hb:Below w.heap.size w w'):RowT p k w' v n f:=by
 obtain⟨A,c,X,h0,h1,h2,h3,h4,h5⟩:=h
 exact⟨A,c,X,h0,h1,h2,h3.below hb,fun i hi=>(h4 i hi).below hb,fun a e=>by
  obtain⟨cs,m,h⟩:=h5 a e
  exact⟨cs,m,(hb.block _ (Array.getElem?_eq_some_iff.1 h).1).trans h⟩⟩
theorem RowQ.congr(h:RowQ p k w v n f)(he : ∀i,i<n→f i=g i):RowQ p k w v n g:=by
 obtain⟨A,c,X,h0,h1,h2,h3,h4⟩:=h
 exact⟨A,c,X,h0,h1,h2,h3,fun i hi=>he i hi▸h4 i hi⟩
theorem RowQ.bq(h:RowQ p k w v n f)(hk:1≤k) {i:Nat}(hi:i<n):BQ k (f i):=by
 obtain⟨A,c,X,h0,h1,h2,h3,h4⟩:=h
 exact(h4 i hi).2.bq hk
theorem RowQ.at_(h:RowQ p k w v n f) {i:Nat}(hi:i<n) : ∃ad c x,v = .slice (some ad) n c∧n≤1000000∧n≤c∧RatAt w (ad.add (i*4)) x∧EQ p k w x.val (f i):=by
 obtain⟨A,c,X,rfl,h1,h2,h3,h4⟩:=h
 obtain⟨ad,rfl,h⟩:=h3 i hi
 exact⟨ad,c,X i,rfl,h2,h1.1,h,h4 i hi⟩
theorem RowQ.len(h:RowQ p k w v n f) : ∃A c,v = .slice A n c∧n≤c∧n≤1000000:=by
 obtain⟨A,c,X,rfl,h1,h2,h3,h4⟩:=h
 exact⟨A,c,rfl,h1.1,h2⟩
end
def TabQ(p:Bool)(k:Nat)(w:World)(v:Value)(m:Nat)(L:Nat→Nat)(F:Nat→Nat→Rat):Prop :=
 ∃A c,v = .slice A m c∧Fits A m c∧m≤1000000∧∀i,i<m→∃ad r,A=some ad∧ad.block<w.heap.size∧w.cell? (ad.add i)=some r∧RowQ p k w r (L i) (F i)
section
variable {p:Bool} {k l m:Nat} {w w':World} {v:Value} {L:Nat→Nat} {F G:Nat→Nat→Rat}
theorem TabQ.below(h:TabQ p k w v m L F)(hb:Below w.heap.size w w'):TabQ p k w' v m L F:=by
 obtain⟨A,c,h0,h1,h2,h3⟩:=h
 refine⟨A,c,h0,h1,h2,fun i hi=>?_⟩
 obtain⟨ad,r,e,h4,h5,h6⟩:=h3 i hi
 exact⟨ad,r,e,Nat.lt_of_lt_of_le h4 hb.size,(hb.cell (p:=ad.add i) j74y).trans h5,h6.below hb⟩
theorem TabQ.congr {L':Nat→Nat}(h:TabQ p k w v m L F)(hL : ∀i,i<m→L i=L' i)(he : ∀i,i<m→∀j,j<L i→F i j=G i j):TabQ p k w v m L' G:=by
 obtain⟨A,c,h0,h1,h2,h3⟩:=h
 refine⟨A,c,h0,h1,h2,fun i hi=>?_⟩
 obtain⟨ad,r,e,h4,h5,h6⟩:=h3 i hi
 exact⟨ad,r,e,h4,h5,hL i hi▸h6.congr (he i hi)⟩
theorem TabQ.len(h:TabQ p k w v m L F) : ∃A c,v = .slice A m c∧m≤c∧m≤1000000:=by
 obtain⟨A,c,h0,h1,h2,h3⟩:=h
 exact⟨A,c,h0,h1.1,h2⟩
theorem TabQ.at_(h:TabQ p k w v m L F) {i:Nat}(hi:i<m) : ∃ad c A' c',v = .slice (some ad) m c∧m≤1000000∧ad.block<w.heap.size∧w.cell? (ad.add i)=some (.slice A' (L i) c')∧L i≤c'∧L i≤1000000∧RowQ p k w (.slice A' (L i) c') (L i) (F i):=by
 obtain⟨A,c,rfl,h1,h2,h3⟩:=h
 obtain⟨ad,r,rfl,h4,h5,h6⟩:=h3 i hi
 obtain⟨A',c',rfl,h7,h8⟩:=h6.len
 exact⟨ad,c,A',c',rfl,h2,h4,h5,h7,h8,h6⟩
end
def OwnN(w:World)(base:Nat)(t:TypeId)(z:Nat)(v:Value)(n:Nat)(xs:List Value):Prop :=
 xs.length=n*z∧((v = .slice none 0 0∧n=0)∨
  ∃g cap cur,v = .slice (some ⟨g,0,none⟩) n cap∧base≤g∧Blk w g t cur∧n≤cap∧cap≤maxLen∧cur.size=cap*z∧cur.toList.take (n*z)=xs∧∀u∈cur.toList,Nu u)
structure Fz (base:Nat) (t:TypeId) (w w':World):Prop where
 below:Below base w w'
 keep:Kp w w'
 other : ∀ (k:Nat) (o:Obj),w.heap[k]? = some o→(∀cs m,o≠Obj.cells cs t m)→w'.heap[k]? = some o
section
variable {w w' w'':World} {base n z g cap:Nat} {t t':TypeId} {v:Value} {xs:List Value}
theorem Fz.refl:Fz base t w w:=⟨Below.refl _ _,Kp.refl _,fun _ _ h _=>h⟩
theorem Fz.trans(h:Fz base t w w')(h':Fz base t w' w''):Fz base t w w'':=⟨h.below.trans h'.below,h.keep.trans h'.keep,fun k o e he=>h'.other k o (h.other k o e he) he⟩
theorem Fz.of_below(h:Below w.heap.size w w')(hb:base≤w.heap.size):Fz base t w w':=⟨h.mono hb,.of_below h,fun k o e _=>(h.block k (Array.getElem?_eq_some_iff.1 e).1).trans e⟩
theorem OwnN.own(h:OwnN w base t z v n xs):w.ownsRow base t z v n xs:=by
 refine⟨h.1,?_⟩
 rcases h.2 with h | ⟨g,cap,cur,h1,h2,h3,h4,h5,h6,h7,_⟩
 ·exact .inl h
 ·exact .inr ⟨g,cap,cur,h1,h2,h3,h4,h5,h6,h7⟩
theorem OwnN.below(h:OwnN w base t z v n xs)(hb:Below w.heap.size w w'):OwnN w' base t z v n xs:=by
 refine⟨h.1,?_⟩
 rcases h.2 with h | ⟨g,cap,cur,h1,h2,h3,h4⟩
 ·exact .inl h
 ·exact .inr ⟨g,cap,cur,h1,h2,h3.below hb,h4⟩
theorem OwnN.fz {base':Nat}(h:OwnN w base t z v n xs)(hf:Fz base' t' w w')(hne:t≠t'):OwnN w' base t z v n xs:=by
 refine⟨h.1,?_⟩
 rcases h.2 with h | ⟨g,cap,cur,h1,h2,h3,h4⟩
 ·exact .inl h
 ·exact .inr ⟨g,cap,cur,h1,h2,hf.other _ _ h3 (fun cs m e=>by injection e with _ e _;exact hne e),h4⟩
theorem OwnN.nil:OwnN w base t z (.slice none 0 0) 0 []:=⟨by simp,.inl ⟨rfl,rfl⟩⟩
theorem OwnN.form(h:OwnN w base t z v n xs)(hn:0<n) : ∃g c,v = .slice (some ⟨g,0,none⟩) n c∧base≤g∧n≤c∧c≤maxLen∧g<w.heap.size:=by
 rcases h.2 with ⟨_,h0⟩ | ⟨g,cap,cur,rfl,h2,h3,h4,h5,_⟩
 ·omega
 ·exact⟨g,cap,rfl,h2,h4,h5,h3.lt⟩
theorem OwnN.cellAt(h:OwnN w base t z (.slice (some ⟨g,0,none⟩) n cap) n xs)(j:Nat)(hj:j<n*z):w.cell? ⟨g,j,none⟩=xs[j]? := h.own.cellAt j hj
theorem OwnN.frozenAt(h:OwnN w base t z (.slice (some ⟨g,0,none⟩) n cap) n xs)(j:Nat):w.frozen? ⟨g,j,none⟩=false:=h.own.frozenAt j
theorem OwnN.blk(h:OwnN w base t z (.slice (some ⟨g,0,none⟩) n cap) n xs):base≤g∧n≤cap∧∃cur,Blk w g t cur:=by
 rcases h.2 with ⟨h0,_⟩ | ⟨g',cap',cur,h1,h2,h3,h4,h5,h6,h7,h8⟩
 ·simp at h0
 ·simp only [Value.slice.injEq,Option.some.injEq,Addr.mk.injEq,and_true,true_and] at h1
  obtain⟨rfl,rfl⟩:=h1
  exact⟨h2,h4,cur,h3⟩
theorem OwnN.stored(h:OwnN w base t z (.slice (some ⟨g,0,none⟩) n cap) n xs)(j:Nat)(u:Value)(hu:Nu u) :
 OwnN (w.setCell ⟨g,j,none⟩ u) base t z (.slice (some ⟨g,0,none⟩) n cap) n (xs.set j u)∧Fz base t w (w.setCell ⟨g,j,none⟩ u):=by
 rcases h.2 with ⟨h0,_⟩ | ⟨g',cap',cur,h1,h2,h3,h4,h5,h6,h7,h8⟩
 ·simp at h0
 ·simp only [Value.slice.injEq,Option.some.injEq,Addr.mk.injEq,and_true,true_and] at h1
  obtain⟨rfl,rfl⟩:=h1
  refine⟨⟨by simpa using h.1,.inr ⟨g,cap,cur.setIfInBounds j u,rfl,h2,h3.set_ j u,h4,h5,by simpa using h6,?_,fun x hx=>?_⟩⟩,⟨Below.setCell (Below.refl _ _) h2 _,⟨by simp [World.setCell],fun a y e=>?_⟩,fun k o e he=>?_⟩⟩
  ·rw [Array.toList_setIfInBounds,← h7,List.take_set]
  ·rw [Array.toList_setIfInBounds] at hx
   rcases List.mem_or_eq_of_mem_set hx with hx | rfl
   ·exact h8 _ hx
   ·exact hu
  ·by_cases hp:(⟨g,j,none⟩:Addr)=a
   ·subst hp
    rw [h3.cell j] at e
    exact absurd rfl (h8 _ (List.mem_of_getElem? (by rw [Array.getElem?_toList];exact e)) y)
   ·rw [World.cell?_setCell_other (w:=w) (v:=u) (a:=⟨g,j,none⟩) (b:=a) hp]
    exact e
  ·by_cases hb:k=g
   ·subst hb
    rw [show w.heap[k]? = _ from h3] at e
    injection e with e
    exact absurd e.symm (he _ _)
   ·exact(heap_setCell_other w ⟨g,j,none⟩ k u hb).trans e
theorem fz_setRow {cur cs:Array Value}(h3:Blk w g t cur)(h8 : ∀u∈cur.toList,Nu u)(hb:base≤g):Fz base t w (w.setRow g cs):=by
 refine⟨below_setRow (Below.refl _ _) hb _,⟨by simp,fun a y e=>?_⟩,fun k o e he=>?_⟩
 ·by_cases hp:a.block=g
  ·exfalso
   obtain⟨ab,ao,asp⟩:=a
   obtain rfl:ab=g:=hp
   have:cur[ao]? = some (.int .u32 y):=by
    unfold World.cell? at e
    rw [show w.heap[ab]? = _ from h3] at e
    simp only at e
    split at e
    ·cases e
    ·exact e
   exact h8 _ (List.mem_of_getElem? (by rw [Array.getElem?_toList];exact this)) y rfl
  ·rw [World.cell?_of_block (setRow_other w g a.block cs hp)]
   exact e
 ·by_cases hb:k=g
  ·subst hb
   rw [show w.heap[k]? = _ from h3] at e
   injection e with e
   exact absurd e.symm (he _ _)
  ·exact(setRow_other w g k cs hb).trans e
theorem fz_drew_alloc(o:Obj)(hb:base≤w.heap.size):Fz base t w (w.drew.alloc o) := .of_below ((Below.refl _ _).drew.trans (below_new w.drew o)) hb
theorem mem_zeroCells {z:Array Value} {n:Nat} {u:Value}(h:u∈(Builtin.zeroCells z n).toList)(hz : ∀u∈z.toList,Nu u):Nu u:=by
 simp [Builtin.zeroCells] at h
 obtain⟨j,hj,h⟩:=h
 have hs:0<z.size:=by
  rcases Nat.eq_zero_or_pos z.size with h0 | h0
  ·rw [h0] at hj;omega
  ·exact h0
 have hlt:=Nat.mod_lt j hs
 rw [getElem!_pos z (j % z.size) hlt] at h
 exact hz u (by rw [← h];simp)
theorem run_append_ownN {P:Program}(ty tt e:TypeId)(i:TypeInfo)(z:Value)(size bytes:Nat)(ht:P.underlying tt=some (.slice e))(hi:P.info? e=some i)(hz:i.zero=some z)
 (hsize:i.size=size) (hby:i.bytes=bytes) (hzs:z.cells.size=size) (hsz:0<size) (hzn : ∀u∈z.cells.toList,Nu u)
 (hown:OwnN w base e size v n xs) (a:Addr) (m c:Nat) (news:List Value) (hl:news.length=m*size) (hnews : ∀j u,news[j]? = some u→w.cell? (a.add j)=some u) (h1 : ∀u∈news,u.oneCell'=true) (hnn : ∀u∈news,Nu u)
 (h63:n+m≤maxLen) (hbytes:(n+m)*bytes≤140737488355328) (hbase:base≤w.heap.size) :
 ∃v' w',(Builtin.append_ #[tt,tt] ty #[v,.slice (some a) m c]).run P w = .ok v' w'∧OwnN w' base e size v' (n+m) (xs ++ news)∧Fz base e w w':=by
 subst hsize
 subst hby
 have hsmall:n+m≤9223372036854775807:=by simp only [maxLen] at h63;omega
 have hlen:(xs ++ news).length=(n+m)*i.size:=by rw [List.length_append,hown.1,hl,Nat.add_mul]
 have grown : ∀ (old:Nat),old<n+m→(∀u∈xs,Nu u)→
  OwnN (w.drew.alloc (.cells (xs.toArray ++ news.toArray ++ Builtin.zeroCells z.cells (grownCap w (n+m) old e - (n+m))) e)) base e i.size
   (.slice (some ⟨w.heap.size,0,none⟩) (n+m) (grownCap w (n+m) old e)) (n+m) (xs ++ news):=by
  intro old ho hxs
  have hge:=grownCap_ge w (n+m) old e
  have hcm:grownCap w (n+m) old e≤maxLen:=grownCap_le_maxLen w (n+m) old e h63
  refine⟨hlen,.inr ⟨w.heap.size,_,_,rfl,hbase,heap_alloc_new w.drew _,hge,hcm,?_,?_,fun u hu=>?_⟩⟩
  ·simp only [Array.size_append,List.size_toArray,size_zeroCells,hzs,hown.1,hl,← Nat.add_mul]
   congr 1
   omega
  ·simp only [Array.toList_append,List.append_assoc]
   rw [← List.append_assoc,← hlen]
   exact List.take_left
  ·simp only [Array.toList_append,List.mem_append] at hu
   rcases hu with (hu | hu) | hu
   ·exact hxs u hu
   ·exact hnn u hu
   ·exact mem_zeroCells hu hzn
 rcases hown.2 with ⟨rfl,rfl⟩ | ⟨g,cap,cur,rfl,hbg,hg,hnc,hcm,hcs,htake,hnu⟩
 ·have hx:xs = []:=List.eq_nil_of_length_eq_zero (by simpa using hown.1)
  subst hx
  by_cases hm:m=0
  ·subst hm
   have hn:news = []:=List.eq_nil_of_length_eq_zero (by simpa using hl)
   subst hn
   refine⟨.slice none 0 0,w,?_,OwnN.nil,Fz.refl⟩
   simp [Builtin.append_,run_underlying ht,sizeOf,typeInfo,hi,Builtin.lenOf,Builtin.firstCells,loadCells,loadCellsFrom]
  ·have hr:=run_append_nil (P:=P) w tt ty e i z ht hi hz a m c news hl hnews j0i3 j0i3 (by have hb:=hbytes;simp only [Nat.zero_add] at hb;omega)
   have hgr:=grown 0 j0i3 jupy
   simp only [Nat.zero_add,List.nil_append,Array.empty_append] at hgr ⊢
   exact⟨_,_,hr,hgr,fz_drew_alloc _ hbase⟩
 ·by_cases hroom:n+m≤cap
  ·have hfit:n*i.size+news.length≤cur.size:=by rw [hl,hcs,← Nat.add_mul];exact Nat.mul_le_mul_right _ hroom
   have hr:=run_append_room (P:=P) w tt ty e i ht hi g n cap cur hg a m c news hl hnews h1 hroom hfit
   refine⟨_,_,hr,⟨hlen,.inr ⟨g,cap,_,rfl,hbg,setRow_heap w g cur _ e _ hg,hroom,hcm,?_,?_,fun u hu=>?_⟩⟩,fz_setRow hg hnu hbg⟩
   ·simp only [List.size_toArray,List.length_append,List.length_take,List.length_drop,Array.length_toList]
    omega
   ·rw [htake,← hlen]
    exact List.take_left
   ·simp only [List.mem_append] at hu
    rcases hu with (hu | hu) | hu
    ·exact hnu u (List.mem_of_mem_take hu)
    ·exact hnn u hu
    ·exact hnu u (List.mem_of_mem_drop hu)
  ·have hxs : ∀u∈xs,Nu u:=fun u hu=>hnu u (List.mem_of_mem_take (htake▸hu))
   have holds : ∀j u,xs[j]? = some u→w.cell? ((⟨g,0,none⟩:Addr).add j)=some u:=hown.own.cells (g:=g) rfl
   have hr:=run_append_grow (P:=P) w tt ty e i z ht hi hz ⟨g,0,none⟩ n cap xs hown.1 holds a m c news hl hnews j0i3 j0i3 (growslice_fits j0i3 hbytes)
   exact⟨_,_,hr,grown cap j0i3 hxs,fz_drew_alloc _ hbase⟩
end
end Go.Proofs.YtgilnmhejjpleaaGreat
namespace Go.Proofs.YtgilnmhejjpleaaGreat
open Go.RowKit
set_option linter.unusedSimpArgs false
set_option linter.unusedVariables false
set_option maxRecDepth 100000
theorem rat_info:(Tryz.prog.info? 36).map (fun i=>(i.zero,i.size,i.bytes))=some (some ratZ.val,4,64):=by kernel_rfl
theorem rrow_info:(Tryz.prog.info? 22).map (fun i=>(i.zero,i.size,i.bytes))=some (some (.slice none 0 0),1,24):=by kernel_rfl
theorem info_parts {P:Program} {e:TypeId} {z:Value} {size bytes:Nat}(h:(P.info? e).map (fun i=>(i.zero,i.size,i.bytes))=some (some z,size,bytes)) : ∃i,P.info? e=some i∧i.zero=some z∧i.size=size∧i.bytes=bytes:=by
 obtain⟨i,hi,hzz⟩:=Option.map_eq_some_iff.1 h
 simp only [Prod.mk.injEq] at hzz
 exact⟨i,hi,hzz.1,hzz.2.1,hzz.2.2⟩
theorem ratL_one(x:RatD) : ∀u∈ratL x,u.oneCell'=true:=fun u hu=>by
 simp [ratL] at hu
 rcases hu with rfl | rfl | rfl | rfl <;> rfl
theorem ratL_nu(x:RatD) : ∀u∈ratL x,Nu u:=fun u hu=>by
 simp [ratL] at hu
 rcases hu with rfl | rfl | rfl | rfl
 ·exact nu
 ·exact nu
 ·exact nu
 ·exact nu
def rowR(X:Nat→RatD)(k:Nat):List Value:=(List.range k).flatMap fun i=>ratL (X i)
theorem rowR_succ(X:Nat→RatD)(k:Nat):rowR X (k+1)=rowR X k ++ ratL (X k):=by
 unfold rowR
 rw [List.range_succ,List.flatMap_append]
 simp
theorem rowR_len(X:Nat→RatD) : ∀k,(rowR X k).length=k*4
 | 0=>rfl
 |k+1=>by rw [rowR_succ,List.length_append,rowR_len X k];simp [ratL];omega
theorem rowR_get(X:Nat→RatD) {i j:Nat}(hj:j<4) : ∀k,i<k→(rowR X k)[i*4+j]? = (ratL (X i))[j]?
 | 0,h=>absurd h j0i3
 |k+1,h=>by
  rw [rowR_succ]
  by_cases hk:i<k
  ·rw [List.getElem?_append_left (by rw [rowR_len];omega)]
   exact rowR_get X hj k hk
  ·obtain rfl:i=k:=by omega
   rw [List.getElem?_append_right (by rw [rowR_len];omega),rowR_len,Nat.add_sub_cancel_left]
theorem rowR_mem {X:Nat→RatD} {n:Nat} {u:Value}(hu:u∈rowR X n) : ∃i,u∈ratL (X i):=by
 simp only [rowR,List.mem_flatMap] at hu
 obtain⟨i,_,h⟩:=hu
 exact⟨i,h⟩
theorem rowR_ext {xs:List Value} {X:Nat→RatD} {n:Nat}(hl:xs.length=n*4)(h : ∀i j,i<n→j<4→xs[i*4+j]? = (ratL (X i))[j]?):xs=rowR X n:=by
 apply List.ext_getElem?
 intro j
 by_cases hj:j<n*4
 ·have e:j=j / 4*4+j % 4:=by omega
  have hq:j / 4<n := j0i3
  have hr:j % 4<4 := j0i3
  generalize j / 4=q at *
  generalize j % 4=r at *
  subst e
  rw [rowR_get _ hr n hq,h q r hq hr]
 ·rw [List.getElem?_eq_none j0i3,List.getElem?_eq_none (by rw [rowR_len];omega)]
theorem rowR_congr {X Y:Nat→RatD} {n:Nat}(h : ∀i,i<n→X i=Y i):rowR X n=rowR Y n:=rowR_ext (rowR_len X n) fun i j hi hj=>by rw [rowR_get X hj n hi,h i hi]
def updR {α:Type}(X:Nat→α)(i:Nat)(x:α):Nat→α:=fun j=>if j=i then x else X j
theorem updR_at {α:Type}(X:Nat→α)(i:Nat)(x:α):updR X i x i=x:=by unfold updR;rw [if_pos rfl]
theorem updR_ne {α:Type}(X:Nat→α) {i j:Nat}(x:α)(h:j≠i):updR X i x j=X j:=by unfold updR;rw [if_neg h]
def appR {α:Type}(X:Nat→α)(n:Nat)(Y:Nat→α):Nat→α:=fun i=>if i<n then X i else Y (i - n)
theorem appR_lt {α:Type}(X:Nat→α)(n:Nat)(Y:Nat→α) {i:Nat}(h:i<n):appR X n Y i=X i:=by unfold appR;rw [if_pos h]
theorem appR_ge {α:Type}(X:Nat→α)(n:Nat)(Y:Nat→α)(i:Nat):appR X n Y (n+i)=Y i:=by unfold appR;rw [if_neg j0i3,Nat.add_sub_cancel_left]
theorem rowR_app(X Y:Nat→RatD)(n:Nat) : ∀m,rowR (appR X n Y) (n+m)=rowR X n ++ rowR Y m
 | 0=>by
   rw [Nat.add_zero,show rowR Y 0 = [] from rfl,List.append_nil]
   exact rowR_congr fun i hi=>appR_lt _ _ _ hi
 |m+1=>by
  rw [← Nat.add_assoc,rowR_succ,rowR_app X Y n m,rowR_succ,List.append_assoc,appR_ge]
theorem rowR_upd {X:Nat→RatD} {i n:Nat}(hi:i<n)(x:RatD):((((rowR X n).set (i*4) (.bool x.b)).set (i*4+1) (.slice x.A x.n x.c)).set (i*4+2) (.bool x.b')).set (i*4+3) (.slice x.A' x.n' x.c')=rowR (updR X i x) n:=by
 have hlen:(rowR X n).length=n*4:=rowR_len X n
 refine rowR_ext (by simp [hlen]) fun q r hq hr=>?_
 by_cases hqi:q=i
 ·subst hqi
  rw [updR_at]
  have:r=0∨r=1∨r=2∨r=3 := j0i3
  rcases this with rfl | rfl | rfl | rfl <;> simp [ratL,List.getElem?_set,hlen] <;> omega
 ·rw [List.getElem?_set_ne j0i3,List.getElem?_set_ne j0i3,List.getElem?_set_ne j0i3,List.getElem?_set_ne j0i3,rowR_get _ hr n hq,updR_ne _ _ hqi]
def OwnR(w:World)(base:Nat)(v:Value)(n:Nat)(X:Nat→RatD):Prop:=OwnN w base 36 4 v n (rowR X n)
def OwnT(w:World)(base:Nat)(v:Value)(m:Nat)(r:Nat→Value):Prop:=OwnN w base 22 1 v m ((List.range m).map r)
section
variable {w w':World} {base n m g c:Nat} {v:Value} {X:Nat→RatD} {r:Nat→Value}
theorem OwnR.below(h:OwnR w base v n X)(hb:Below w.heap.size w w'):OwnR w' base v n X:=OwnN.below h hb
theorem OwnT.below(h:OwnT w base v m r)(hb:Below w.heap.size w w'):OwnT w' base v m r:=OwnN.below h hb
theorem OwnR.alloc_(h:OwnR w base v n X)(o:Obj):OwnR (w.alloc o) base v n X:=h.below (below_new w o)
theorem OwnR.nil:OwnR w base (.slice none 0 0) 0 X:=OwnN.nil
theorem OwnR.at_(h:OwnR w base (.slice (some ⟨g,0,none⟩) n c) n X) {i:Nat}(hi:i<n):RatAt w ⟨g,i*4,none⟩ (X i):=by
 have cl : ∀j,j<4→w.cell? ⟨g,i*4+j,none⟩=(ratL (X i))[j]? := fun j hj=>by
  rw [OwnN.cellAt h (i*4+j) j0i3]
  exact rowR_get X hj n hi
 obtain⟨_,_,cur,hc⟩:=OwnN.blk h
 exact⟨hc.lt,cl 0 j0i3,cl 1 j0i3,cl 2 j0i3,cl 3 j0i3⟩
theorem OwnR.rowAt(h:OwnR w base v n X) : ∃A c,v = .slice A n c∧Fits A n c∧RowAt w A n X∧∀a,A=some a→∃cs m,w.heap[a.block]? = some (.cells cs 36 m):=by
 rcases h.2 with ⟨rfl,rfl⟩ | ⟨g,cap,cur,rfl,h2,h3,h4,_⟩
 ·exact⟨none,0,rfl,⟨Nat.le_refl _,fun _=>rfl⟩,fun i hi=>absurd hi j0i3,fun a e=>by cases e⟩
 ·refine⟨some ⟨g,0,none⟩,cap,rfl,⟨h4,fun e=>by cases e⟩,fun i hi=>⟨_,rfl,?_⟩,fun a e=>?_⟩
  ·rw [add_mk,Nat.zero_add];exact OwnR.at_ h hi
  ·injection e with e;subst e;exact⟨_,_,h3⟩
theorem OwnR.rowT {p:Bool} {k:Nat} {f:Nat→Rat}(h:OwnR w base v n X)(hn:n≤1000000)(hf : ∀i,i<n→EQ p k w (X i).val (f i)):RowT p k w v n f:=by
 obtain⟨A,c,h1,h2,h3,h4⟩:=h.rowAt
 exact⟨A,c,X,h1,h2,hn,h3,hf,h4⟩
theorem OwnR.congr {Y:Nat→RatD}(h:OwnR w base v n X)(he : ∀i,i<n→X i=Y i):OwnR w base v n Y:=by
 unfold OwnR at *
 rw [← rowR_congr he]
 exact h
theorem OwnR.set4(h:OwnR w base (.slice (some ⟨g,0,none⟩) n c) n X) {i:Nat}(hi:i<n)(x:RatD) {W:World}
 (hW:W=(((w.setCell ⟨g,i*4,none⟩ (.bool x.b)).setCell ⟨g,i*4+1,none⟩ (.slice x.A x.n x.c)).setCell ⟨g,i*4+2,none⟩ (.bool x.b')).setCell ⟨g,i*4+3,none⟩ (.slice x.A' x.n' x.c')) :
 OwnR W base (.slice (some ⟨g,0,none⟩) n c) n (updR X i x)∧Fz base 36 w W∧W.heap.size=w.heap.size:=by
 subst hW
 unfold OwnR at *
 rw [← rowR_upd hi x]
 have h1:=OwnN.stored h (i*4) (.bool x.b) nu
 have h2:=OwnN.stored h1.1 (i*4+1) (.slice x.A x.n x.c) nu
 have h3:=OwnN.stored h2.1 (i*4+2) (.bool x.b') nu
 have h4:=OwnN.stored h3.1 (i*4+3) (.slice x.A' x.n' x.c') nu
 exact⟨h4.1,((h1.2.trans h2.2).trans h3.2).trans h4.2,by simp [World.setCell]⟩
theorem OwnR.spot(h:OwnR w base (.slice (some ⟨g,0,none⟩) n c) n X) {i:Nat}(hi:i<n):g<w.heap.size∧w.cell? ⟨g,i*4,none⟩=some (.bool (X i).b)∧w.cell? ⟨g,i*4+1,none⟩=some (.slice (X i).A (X i).n (X i).c)∧w.cell? ⟨g,i*4+2,none⟩=some (.bool (X i).b')∧w.cell? ⟨g,i*4+3,none⟩=some (.slice (X i).A' (X i).n' (X i).c')∧
 w.frozen? ⟨g,i*4,none⟩=false∧w.frozen? ⟨g,i*4+1,none⟩=false∧w.frozen? ⟨g,i*4+2,none⟩=false∧w.frozen? ⟨g,i*4+3,none⟩=false:=by
 obtain⟨h0,h1,h2,h3,h4⟩:=h.at_ hi
 exact⟨h0,h1,h2,h3,h4,OwnN.frozenAt h _,OwnN.frozenAt h _,OwnN.frozenAt h _,OwnN.frozenAt h _⟩
theorem OwnT.at_(h:OwnT w base (.slice (some ⟨g,0,none⟩) m c) m r) {i:Nat}(hi:i<m):w.cell? ⟨g,i,none⟩=some (r i):=by
 rw [OwnN.cellAt h i j0i3]
 simp [hi]
theorem OwnT.lt(h:OwnT w base (.slice (some ⟨g,0,none⟩) m c) m r):g<w.heap.size:=by
 obtain⟨_,_,cur,hc⟩:=OwnN.blk h
 exact hc.lt
theorem OwnT.set1(h:OwnT w base (.slice (some ⟨g,0,none⟩) m c) m r) {i:Nat}(hi:i<m) {u:Value}(hu:Nu u) {W:World}(hW:W=w.setCell ⟨g,i,none⟩ u) :
 OwnT W base (.slice (some ⟨g,0,none⟩) m c) m (updR r i u)∧Fz base 22 w W∧W.heap.size=w.heap.size:=by
 subst hW
 unfold OwnT at *
 have h1:=OwnN.stored h i u hu
 refine⟨?_,h1.2,by simp [World.setCell]⟩
 have e:((List.range m).map r).set i u=(List.range m).map (updR r i u):=by
  apply List.ext_getElem?
  intro j
  by_cases hj:j=i
  ·subst hj
   simp [hi,updR_at]
  ·rw [List.getElem?_set_ne (fun e=>hj e.symm)]
   by_cases hjm:j<m
   ·simp [hjm,updR_ne _ _ hj]
   ·simp [hjm]
 rw [← e]
 exact h1.1
theorem OwnT.congr {r':Nat→Value}(h:OwnT w base v m r)(he : ∀i,i<m→r i=r' i):OwnT w base v m r':=by
 unfold OwnT at *
 rw [← List.map_congr_left (fun i hi=>he i (by simpa using hi))]
 exact h
theorem OwnT.tabQ {p:Bool} {k:Nat} {L:Nat→Nat} {F:Nat→Nat→Rat}(h:OwnT w base v m r)(hm:m≤1000000)(hr : ∀i,i<m→RowT p k w (r i) (L i) (F i)):TabQ p k w v m L F:=by
 rcases h.2 with ⟨rfl,rfl⟩ | ⟨g,cap,cur,rfl,h2,h3,h4,_⟩
 ·exact⟨none,0,rfl,⟨Nat.le_refl _,fun _=>rfl⟩,by omega,fun i hi=>absurd hi j0i3⟩
 ·refine⟨some ⟨g,0,none⟩,cap,rfl,⟨h4,fun e=>by cases e⟩,hm,fun i hi=>⟨_,_,rfl,h3.lt,?_,(hr i hi).rowQ⟩⟩
  rw [add_mk,Nat.zero_add];exact OwnT.at_ h hi
end
section
variable {P:Program} {w:World} {ops:Array Oper} {rest:List Oper} {o:Oper} {a:Act} {Q:Exit→Act→World→Prop}
theorem run_make_ownN(base:Nat)(t e:TypeId)(z:Value)(size bytes:Nat)(ht:P.underlying t=some (.slice e))(hinfo:(P.info? e).map (fun i=>(i.zero,i.size,i.bytes))=some (some z,size,bytes))(hzs:z.cells.size=size)(hsz:0<size)(hzn : ∀u∈z.cells.toList,Nu u)
 (kl kc:IntKind) (n:Nat) (hbytes:bytes*n≤281474976710656) (h63:n≤maxLen) (hbase:base≤w.heap.size) :
 ∃w',(Instr.makeSlice t (.int kl (n:Int)) (.int kc (n:Int))).run P w = .ok (.slice (some ⟨w.heap.size,0,none⟩) n n) w'∧
  OwnN w' base e size (.slice (some ⟨w.heap.size,0,none⟩) n n) n (madeCells z.cells (n*size)).toList∧Below w.heap.size w w'∧w'.heap.size=w.heap.size+1:=by
 obtain⟨i,hi,hz,hs,hby⟩:=info_parts hinfo
 subst hs
 subst hby
 have h63':(n:Int)≤9223372036854775807:=by
  have h:=h63
  simp [maxLen] at h
  omega
 have hb':(i.bytes:Int)*(n:Int)≤281474976710656:=by
  have h:((i.bytes*n:Nat):Int)≤281474976710656 := j0i3
  rwa [Int.natCast_mul] at h
 have hr:=run_make (P:=P) w t e i z ht hi hz kl kc n n j0i3 (Int.le_refl _) hb' h63'
 simp only [Int.toNat_natCast] at hr
 refine⟨_,hr,⟨by simp [size_madeCells],.inr ⟨w.heap.size,n,_,rfl,hbase,heap_alloc_new w _,Nat.le_refl _,h63,size_madeCells _ _,List.take_of_length_le (by simp [size_madeCells]),fun u hu=>?_⟩⟩,below_new _ _,by simp⟩
 simp [madeCells] at hu
 obtain⟨j,hj,hu⟩:=hu
 have hlt:=Nat.mod_lt j (show z.cells.size > 0 by omega)
 rw [getElem!_pos z.cells (j % z.cells.size) hlt] at hu
 exact hzn u (by rw [← hu];simp)
theorem wpList_make_rats(hP:P=Tryz.prog)(hg:o.guard=none)(l c:Operand)(hop:o.op=Op.makeSlice 22 l c)(base:Nat)
 (kl kc:IntKind) (L C:Int) (n:Nat) (hl:a.eval l = .int kl L) (hc:a.eval c = .int kc C) (hL:L=(n:Int)) (hC:C=(n:Int)) (hn:n≤1000000) (hbase:base≤w.heap.size)
 (hK : ∀w',OwnR w' base (.slice (some ⟨w.heap.size,0,none⟩) n n) n (fun _=>ratZ)→Below w.heap.size w w'→w'.heap.size=w.heap.size+1→wpList P ops Q rest (a.put o.dst (.slice (some ⟨w.heap.size,0,none⟩) n n)) w') :
 wpList P ops Q (o :: rest) a w:=by
 subst hP
 refine wpList_plain hg fun K hK'=>?_
 subst hL
 subst hC
 obtain⟨w',hrun,h1,h2,h3⟩:=run_make_ownN (P:=Tryz.prog) (w:=w) base 22 36 ratZ.val 4 64 Tryz.underlying22 rat_info rfl j0i3 (ratL_nu ratZ) kl kc n j0i3 j22u hbase
 unfold Oper.wp
 simp [execOp,hop,hl,hc,hrun,Result.andThen]
 refine hK' _ _ (hK _ ?_ h2 h3)
 have e:(madeCells ratZ.val.cells (n*4)).toList=rowR (fun _=>ratZ) n:=by
  refine rowR_ext (by simp [size_madeCells]) fun i j hi hj=>?_
  have hlt:i*4+j<n*4 := j0i3
  have:j=0∨j=1∨j=2∨j=3 := j0i3
  simp only [madeCells,Array.toList_map,List.getElem?_map,Array.toList_range,List.getElem?_range hlt,Option.map_some]
  rcases this with rfl | rfl | rfl | rfl
  ·rw [show(i*4+0) % ratZ.val.cells.size=0 from by show(i*4+0) % 4=0;omega];rfl
  ·rw [show(i*4+1) % ratZ.val.cells.size=1 from by show(i*4+1) % 4=1;omega];rfl
  ·rw [show(i*4+2) % ratZ.val.cells.size=2 from by show(i*4+2) % 4=2;omega];rfl
  ·rw [show(i*4+3) % ratZ.val.cells.size=3 from by show(i*4+3) % 4=3;omega];rfl
 unfold OwnR
 rw [← e]
 exact h1
theorem run_append_rats(ty:TypeId) {base n m c:Nat} {v:Value} {X Y:Nat→RatD} {A:Option Addr}(hown:OwnR w base v n X)(hY:RowAt w A m Y)(hA:A=none→m=0∧c=0)(hnm:n+m≤1000000)(hbase:base≤w.heap.size) :
 ∃v' w',(Builtin.append_ #[22,22] ty #[v,.slice A m c]).run Tryz.prog w = .ok v' w'∧OwnR w' base v' (n+m) (appR X n Y)∧Fz base 36 w w':=by
 obtain⟨i,hi,hz,hs,hby⟩:=info_parts rat_info
 cases A with
 |none =>
  obtain⟨rfl,rfl⟩:=hA rfl
  refine⟨v,w,run_append_owned_none (P:=Tryz.prog) (w:=w) base 22 ty 36 i 4 Tryz.underlying22 hi v n _ (OwnN.own hown),?_,Fz.refl⟩
  exact OwnR.congr hown fun i hi=>(appR_lt _ _ _ hi).symm
 |some ad =>
  obtain⟨v',w',h1,h2,h3⟩:=run_append_ownN (P:=Tryz.prog) ty 22 36 i ratZ.val 4 64 Tryz.underlying22 hi hz hs hby rfl j0i3 (ratL_nu ratZ) hown ad m c (rowR Y m) (rowR_len Y m) (fun j u hu=>by
   have hj:j<m*4:=by
    rcases Nat.lt_or_ge j (m*4) with h1 | h1
    ·exact h1
    ·rw [List.getElem?_eq_none (by rw [rowR_len];exact h1)] at hu;cases hu
   have e:j=j / 4*4+j % 4 := j0i3
   have hi:j / 4<m := j0i3
   have hr:j % 4<4 := j0i3
   generalize j / 4=q at *
   generalize j % 4=r at *
   subst e
   rw [rowR_get Y hr m hi] at hu
   obtain⟨ad',e',p0,p1,p2,p3,p4⟩:=hY q hi
   injection e' with e'
   subst e'
   have hcl : ∀j,j≠0→(⟨(ad.add (q*4)).block,(ad.add (q*4)).off+j,none⟩:Addr)=(ad.add (q*4)).add j:=fun j hj=>by
    generalize ad.add (q*4)=b
    unfold Addr.add
    rw [if_neg hj]
   rw [← add_add]
   have:r=0∨r=1∨r=2∨r=3 := j0i3
   rcases this with rfl | rfl | rfl | rfl <;> simp [ratL] at hu <;> subst hu
   ·exact p1
   ·rw [← hcl 1 j0i3];exact p2
   ·rw [← hcl 2 j0i3];exact p3
   ·rw [← hcl 3 j0i3];exact p4)
   (fun u hu=>by obtain⟨i,h⟩:=rowR_mem hu;exact ratL_one _ u h) (fun u hu=>by obtain⟨i,h⟩:=rowR_mem hu;exact ratL_nu _ u h) j22u j0i3 hbase
  exact⟨v',w',h1,by unfold OwnR;rw [rowR_app];exact h2,h3⟩
theorem wpList_append_rats(hP:P=Tryz.prog)(hgd:o.guard=none)(s x:Operand)(ho:o.op = .call { callee := .builtin .append,args := #[s,x],argTypes := #[22,22] })
 {base n m c:Nat} {v:Value} {X Y:Nat→RatD} {A:Option Addr} (hs:a.eval s=v) (hown:OwnR w base v n X) (hx:a.eval x = .slice A m c) (hY:RowAt w A m Y) (hA:A=none→m=0∧c=0) (hnm:n+m≤1000000) (hbase:base≤w.heap.size)
 (h : ∀v' w',OwnR w' base v' (n+m) (appR X n Y)→Fz base 36 w w'→wpList P ops Q rest (a.put o.dst v') w'):wpList P ops Q (o :: rest) a w:=by
 subst hP
 obtain⟨v',w',h1,h2,h3⟩:=run_append_rats (w:=w) o.type hown hY hA hnm hbase
 exact Go.Lib.wpList_append_run w hgd s x _ _ ho v _ hs hx v' w' h1 (h v' w' h2 h3)
theorem run_append_rows(ty:TypeId) {base n m c:Nat} {v:Value} {r s:Nat→Value} {A:Option Addr}(hown:OwnT w base v n r)(hs : ∀i,i<m→∃ad,A=some ad∧w.cell? (ad.add i)=some (s i))(hsl : ∀i,i<m→∃A n c,s i = .slice A n c)(hA:A=none→m=0∧c=0)(hnm:n+m≤1000000)(hbase:base≤w.heap.size) :
 ∃v' w',(Builtin.append_ #[29,29] ty #[v,.slice A m c]).run Tryz.prog w = .ok v' w'∧OwnT w' base v' (n+m) (appR r n s)∧Fz base 22 w w':=by
 obtain⟨i,hi,hz,hs',hby⟩:=info_parts rrow_info
 cases A with
 |none =>
  obtain⟨rfl,rfl⟩:=hA rfl
  refine⟨v,w,run_append_owned_none (P:=Tryz.prog) (w:=w) base 29 ty 22 i 1 Tryz.underlying29 hi v n _ (OwnN.own hown),?_,Fz.refl⟩
  exact OwnT.congr hown fun i hi=>(appR_lt _ _ _ hi).symm
 |some ad =>
  have hmem : ∀u∈(List.range m).map s,∃A n c,u = .slice A n c:=fun u hu=>by
   simp at hu
   obtain⟨i,hi,rfl⟩:=hu
   exact hsl i hi
  obtain⟨v',w',h1,h2,h3⟩:=run_append_ownN (P:=Tryz.prog) ty 29 22 i (.slice none 0 0) 1 24 Tryz.underlying29 hi hz hs' hby rfl j0i3 (fun u hu=>by simp [Value.cells] at hu;subst hu;exact nu) hown ad m c ((List.range m).map s) jupy (fun j u hu=>by
   have hj:j<m:=by
    rcases Nat.lt_or_ge j m with h1 | h1
    ·exact h1
    ·rw [List.getElem?_eq_none (by simpa using h1)] at hu;cases hu
   simp [hj] at hu
   subst hu
   obtain⟨ad',e',h⟩:=hs j hj
   injection e' with e'
   subst e'
   exact h)
   (fun u hu=>by obtain⟨A,n,c,rfl⟩:=hmem u hu;rfl) (fun u hu=>by obtain⟨A,n,c,rfl⟩:=hmem u hu;exact nu) j22u j0i3 hbase
  refine⟨v',w',h1,?_,h3⟩
  have e:(List.range n).map r ++ (List.range m).map s=(List.range (n+m)).map (appR r n s):=by
   apply List.ext_getElem?
   intro j
   by_cases hj:j<n
   ·rw [List.getElem?_append_left (by simpa using hj)]
    simp [hj,show j<n+m from by omega,appR]
   ·rw [List.getElem?_append_right jb6b]
    by_cases hj2:j<n+m
    ·simp [show j - n<m from by omega,hj2,appR,hj]
    ·simp [show ¬j - n<m from by omega,hj2]
  unfold OwnT
  rw [← e]
  exact h2
theorem wpList_append_rows(hP:P=Tryz.prog)(hgd:o.guard=none)(s x:Operand)(ho:o.op = .call { callee := .builtin .append,args := #[s,x],argTypes := #[29,29] })
 {base n m c:Nat} {v:Value} {r t:Nat→Value} {A:Option Addr} (hs:a.eval s=v) (hown:OwnT w base v n r) (hx:a.eval x = .slice A m c) (ht : ∀i,i<m→∃ad,A=some ad∧w.cell? (ad.add i)=some (t i)) (hsl : ∀i,i<m→∃A n c,t i = .slice A n c) (hA:A=none→m=0∧c=0) (hnm:n+m≤1000000) (hbase:base≤w.heap.size)
 (h : ∀v' w',OwnT w' base v' (n+m) (appR r n t)→Fz base 22 w w'→wpList P ops Q rest (a.put o.dst v') w'):wpList P ops Q (o :: rest) a w:=by
 subst hP
 obtain⟨v',w',h1,h2,h3⟩:=run_append_rows (w:=w) o.type hown ht hsl hA hnm hbase
 exact Go.Lib.wpList_append_run w hgd s x _ _ ho v _ hs hx v' w' h1 (h v' w' h2 h3)
end
end Go.Proofs.YtgilnmhejjpleaaGreat
