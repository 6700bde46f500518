/- Rows and tables of fractions in memory; rows of one's own whose block holds no limb; frames. -/
import Derived.Test.YtgilnmhejjpleaaGreatPRin
import Derived.Laws.AppendOwn
import Derived.Laws.OwnMore
namespace Go.Proofs.YtgilnmhejjpleaaGreat
open Go.RowKit
set_option linter.unusedSimpArgs false
set_option linter.unusedVariables false
theorem jbe {P:Prop}(h:P:=by cases e):P:=h
theorem jb1 {P:Prop}(h:P:=by rw [add_block]; exact h4):P:=h
structure RatD where
 b:Bool
 A:Option Addr
 n:Nat
 c:Nat
 b':Bool
 A':Option Addr
 n':Nat
 c':Nat
abbrev RatD.val(x:RatD):Value := .agg #[.bool x.b,.slice x.A x.n x.c,.bool x.b',.slice x.A' x.n' x.c']
def ratL(x:RatD):List Value := [.bool x.b,.slice x.A x.n x.c,.bool x.b',.slice x.A' x.n' x.c']
def ratZ:RatD:=⟨false,none,0,0,false,none,0,0⟩
def RatAt(w:World)(a:Addr)(x:RatD):Prop :=
 a.block<w.heap.size∧w.cell? a=some (.bool x.b)∧w.cell? ⟨a.block,a.off+1,none⟩=some (.slice x.A x.n x.c)∧w.cell? ⟨a.block,a.off+2,none⟩=some (.bool x.b')∧w.cell? ⟨a.block,a.off+3,none⟩=some (.slice x.A' x.n' x.c')
def RowAt(w:World)(A:Option Addr)(n:Nat)(X:Nat→RatD):Prop := ∀i,i<n→∃ad,A=some ad∧RatAt w (ad.add (i*4)) (X i)
def EQ(p:Bool)(k:Nat)(w:World)(v:Value)(q:Rat):Prop:=(p=true→IsRat w v q∧BQ k q)∧LimQ k w v q
def Kp(w w':World):Prop:=w.heap.size≤w'.heap.size∧∀a z,w.cell? a=some (.int .u32 z)→w'.cell? a=some (.int .u32 z)
section
variable {p:Bool} {k l n:Nat} {w w' w'':World} {v:Value} {q:Rat} {A:Option Addr} {f:Nat→Nat} {X Y:Int} {N:Nat}
theorem Kp.refl(w:World):Kp w w:=⟨Nat.le_refl _,fun _ _ h=>h⟩
theorem Kp.trans(h:Kp w w')(h':Kp w' w''):Kp w w'':=⟨Nat.le_trans h.1 h'.1,fun a z e=>h'.2 a z (h.2 a z e)⟩
theorem Kp.of_below(h:Below w.heap.size w w'):Kp w w':=⟨h.size,fun a z e=>(h.cell (block_lt_of_cell e)).trans e⟩
theorem Rd.kp(h:Rd .u32 w A n f)(hk:Kp w w'):Rd .u32 w' A n f:=fun j hj=>by
 obtain⟨ad,e,hc⟩:=h j hj
 exact⟨ad,e,hk.2 _ _ hc⟩
theorem Lim.kp(h:Lim k w v N)(hk:Kp w w'):Lim k w' v N:=by
 obtain⟨A,n,c,f,h1,h2,h3,h4⟩:=h
 exact⟨A,n,c,f,h1,h2,h3.kp hk,h4⟩
theorem IsNat.kp(h:IsNat w v N)(hk:Kp w w'):IsNat w' v N:=by
 obtain⟨A,n,c,f,h1,h2,h3,h4⟩:=h
 exact⟨A,n,c,f,h1,h2,h3.kp hk,h4⟩
theorem LimI.kp(h:LimI k w v X)(hk:Kp w w'):LimI k w' v X:=by
 obtain⟨b,m,N,h1,h2,h3⟩:=h
 exact⟨b,m,N,h1,h2.kp hk,h3⟩
theorem IsInt.kp(h:IsInt w v X)(hk:Kp w w'):IsInt w' v X:=by
 obtain⟨m,h1,h2⟩:=h
 exact⟨m,h1,h2.kp hk⟩
theorem LimR.kp(h:LimR k w v X Y)(hk:Kp w w'):LimR k w' v X Y:=by
 obtain⟨b,m,b',m',h0,h1,h2⟩:=h
 exact⟨b,m,b',m',h0,h1.kp hk,h2.kp hk⟩
theorem LimQ.kp(h:LimQ k w v q)(hk:Kp w w'):LimQ k w' v q:=by
 obtain⟨X,Y,h1,h2⟩:=h
 exact⟨X,Y,h1.kp hk,h2⟩
theorem IsRat.kp(h:IsRat w v q)(hk:Kp w w'):IsRat w' v q:=by
 obtain⟨b,m,b',m',h0,h1,h2⟩:=h
 exact⟨b,m,b',m',h0,h1.kp hk,h2.kp hk⟩
theorem EQ.kp(h:EQ p k w v q)(hk:Kp w w'):EQ p k w' v q:=⟨fun e=>⟨(h.1 e).1.kp hk,(h.1 e).2⟩,h.2.kp hk⟩
theorem EQ.below(h:EQ p k w v q)(hb:Below w.heap.size w w'):EQ p k w' v q:=h.kp (.of_below hb)
theorem EQ.of(h:IsRat w v q)(hb:BQ k q):EQ p k w v q:=⟨fun _=>⟨h,hb⟩,h.limQ hb⟩
theorem EQ.lim(h:LimQ k w v q):EQ false k w v q:=⟨fun e => jbe,h⟩
theorem IsRat.parts(h:IsRat w v q) : ∃x:RatD,v=x.val:=by
 obtain⟨b,A,n,c,b',A',n',c',rfl,-⟩:=h.form
 exact⟨⟨b,A,n,c,b',A',n',c'⟩,rfl⟩
theorem LimQ.parts(h:LimQ k w v q) : ∃x:RatD,v=x.val:=by
 obtain⟨X,Y,h,-⟩:=h
 obtain⟨b,A,n,c,b',A',n',c',rfl,-⟩:=h.form
 exact⟨⟨b,A,n,c,b',A',n',c'⟩,rfl⟩
theorem RatAt.below {a:Addr} {x:RatD}(h:RatAt w a x)(hb:Below w.heap.size w w'):RatAt w' a x:=by
 obtain⟨h0,h1,h2,h3,h4⟩:=h
 have hk : ∀j,(⟨a.block,a.off+j,none⟩:Addr).block<w.heap.size:=fun j=>h0
 exact⟨Nat.lt_of_lt_of_le h0 hb.size,(hb.cell h0).trans h1,(hb.cell (hk 1)).trans h2,(hb.cell (hk 2)).trans h3,(hb.cell (hk 3)).trans h4⟩
theorem RatAt.of_block {a:Addr} {x:RatD}(h:RatAt w a x)(hb:w'.heap[a.block]? = w.heap[a.block]?):RatAt w' a x:=by
 obtain⟨h0,h1,h2,h3,h4⟩:=h
 have e : ∀ (b:Addr) (u:Value),b.block=a.block→w.cell? b=some u→w'.cell? b=some u:=fun b u hb' hu=>(World.cell?_of_block (by rw [hb'];exact hb)).trans hu
 refine⟨?_,e _ _ rfl h1,e _ _ rfl h2,e _ _ rfl h3,e _ _ rfl h4⟩
 rw [Array.getElem?_eq_getElem h0] at hb
 exact(Array.getElem?_eq_some_iff.1 hb).1
end
def Fits(A:Option Addr)(n c:Nat):Prop:=n≤c∧(A=none→c=0)
def RowQ(p:Bool)(k:Nat)(w:World)(v:Value)(n:Nat)(f:Nat→Rat):Prop :=
 ∃A c X,v = .slice A n c∧Fits A n c∧n≤1000000∧RowAt w A n X∧∀i,i<n→EQ p k w (X i).val (f i)
def RowT(p:Bool)(k:Nat)(w:World)(v:Value)(n:Nat)(f:Nat→Rat):Prop :=
 ∃A c X,v = .slice A n c∧Fits A n c∧n≤1000000∧RowAt w A n X∧(∀i,i<n→EQ p k w (X i).val (f i))∧∀a,A=some a→∃cs m,w.heap[a.block]? = some (.cells cs 36 m)
section
variable {p:Bool} {k l n:Nat} {w w':World} {v:Value} {f g:Nat→Rat}
theorem RowT.rowQ(h:RowT p k w v n f):RowQ p k w v n f:=by
 obtain⟨A,c,X,h0,h1,h2,h3,h4,_⟩:=h
 exact⟨A,c,X,h0,h1,h2,h3,h4⟩
theorem RowAt.below {A:Option Addr} {X:Nat→RatD}(h:RowAt w A n X)(hb:Below w.heap.size w w'):RowAt w' A n X:=fun i hi=>by
 obtain⟨ad,e,h1⟩:=h i hi
 exact⟨ad,e,h1.below hb⟩
theorem RowQ.below(h:RowQ p k w v n f)(hb:Below w.heap.size w w'):RowQ p k w' v n f:=by
 obtain⟨A,c,X,h0,h1,h2,h3,h4⟩:=h
 exact⟨A,c,X,h0,h1,h2,h3.below hb,fun i hi=>(h4 i hi).below hb⟩
theorem RowT.below(h:RowT p k w v n f)(hb:Below w.heap.size w w'):RowT p k w' v n f:=by
 obtain⟨A,c,X,h0,h1,h2,h3,h4,h5⟩:=h
 exact⟨A,c,X,h0,h1,h2,h3.below hb,fun i hi=>(h4 i hi).below hb,fun a e=>by
  obtain⟨cs,m,h⟩:=h5 a e
  exact⟨cs,m,(hb.block _ (Array.getElem?_eq_some_iff.1 h).1).trans h⟩⟩
theorem RowQ.congr(h:RowQ p k w v n f)(he : ∀i,i<n→f i=g i):RowQ p k w v n g:=by
 obtain⟨A,c,X,h0,h1,h2,h3,h4⟩:=h
 exact⟨A,c,X,h0,h1,h2,h3,fun i hi=>he i hi▸h4 i hi⟩
theorem RowQ.bq(h:RowQ p k w v n f)(hk:1≤k) {i:Nat}(hi:i<n):BQ k (f i):=by
 obtain⟨A,c,X,h0,h1,h2,h3,h4⟩:=h
 exact(h4 i hi).2.bq hk
theorem RowQ.at_(h:RowQ p k w v n f) {i:Nat}(hi:i<n) : ∃ad c x,v = .slice (some ad) n c∧n≤1000000∧n≤c∧RatAt w (ad.add (i*4)) x∧EQ p k w x.val (f i):=by
 obtain⟨A,c,X,rfl,h1,h2,h3,h4⟩:=h
 obtain⟨ad,rfl,h⟩:=h3 i hi
 exact⟨ad,c,X i,rfl,h2,h1.1,h,h4 i hi⟩
theorem RowQ.len(h:RowQ p k w v n f) : ∃A c,v = .slice A n c∧n≤c∧n≤1000000:=by
 obtain⟨A,c,X,rfl,h1,h2,h3,h4⟩:=h
 exact⟨A,c,rfl,h1.1,h2⟩
end
def TabQ(p:Bool)(k:Nat)(w:World)(v:Value)(m:Nat)(L:Nat→Nat)(F:Nat→Nat→Rat):Prop :=
 ∃A c,v = .slice A m c∧Fits A m c∧m≤1000000∧∀i,i<m→∃ad r,A=some ad∧ad.block<w.heap.size∧w.cell? (ad.add i)=some r∧RowQ p k w r (L i) (F i)
section
variable {p:Bool} {k l m:Nat} {w w':World} {v:Value} {L:Nat→Nat} {F G:Nat→Nat→Rat}
theorem TabQ.below(h:TabQ p k w v m L F)(hb:Below w.heap.size w w'):TabQ p k w' v m L F:=by
 obtain⟨A,c,h0,h1,h2,h3⟩:=h
 refine⟨A,c,h0,h1,h2,fun i hi=>?_⟩
 obtain⟨ad,r,e,h4,h5,h6⟩:=h3 i hi
 exact⟨ad,r,e,Nat.lt_of_lt_of_le h4 hb.size,(hb.cell (p:=ad.add i) jb1).trans h5,h6.below hb⟩
theorem TabQ.congr {L':Nat→Nat}(h:TabQ p k w v m L F)(hL : ∀i,i<m→L i=L' i)(he : ∀i,i<m→∀j,j<L i→F i j=G i j):TabQ p k w v m L' G:=by
 obtain⟨A,c,h0,h1,h2,h3⟩:=h
 refine⟨A,c,h0,h1,h2,fun i hi=>?_⟩
 obtain⟨ad,r,e,h4,h5,h6⟩:=h3 i hi
 exact⟨ad,r,e,h4,h5,hL i hi▸h6.congr (he i hi)⟩
theorem TabQ.len(h:TabQ p k w v m L F) : ∃A c,v = .slice A m c∧m≤c∧m≤1000000:=by
 obtain⟨A,c,h0,h1,h2,h3⟩:=h
 exact⟨A,c,h0,h1.1,h2⟩
theorem TabQ.at_(h:TabQ p k w v m L F) {i:Nat}(hi:i<m) : ∃ad c A' c',v = .slice (some ad) m c∧m≤1000000∧ad.block<w.heap.size∧w.cell? (ad.add i)=some (.slice A' (L i) c')∧L i≤c'∧L i≤1000000∧RowQ p k w (.slice A' (L i) c') (L i) (F i):=by
 obtain⟨A,c,rfl,h1,h2,h3⟩:=h
 obtain⟨ad,r,rfl,h4,h5,h6⟩:=h3 i hi
 obtain⟨A',c',rfl,h7,h8⟩:=h6.len
 exact⟨ad,c,A',c',rfl,h2,h4,h5,h7,h8,h6⟩
end
def OwnN(w:World)(base:Nat)(t:TypeId)(z:Nat)(v:Value)(n:Nat)(xs:List Value):Prop :=
 xs.length=n*z∧((v = .slice none 0 0∧n=0)∨
  ∃g cap cur,v = .slice (some ⟨g,0,none⟩) n cap∧base≤g∧Blk w g t cur∧n≤cap∧cap≤maxLen∧cur.size=cap*z∧cur.toList.take (n*z)=xs∧∀u∈cur.toList,Nu u)
structure Fz (base:Nat) (t:TypeId) (w w':World):Prop where
 below:Below base w w'
 keep:Kp w w'
 other : ∀ (k:Nat) (o:Obj),w.heap[k]? = some o→(∀cs m,o≠Obj.cells cs t m)→w'.heap[k]? = some o
section
variable {w w' w'':World} {base n z g cap:Nat} {t t':TypeId} {v:Value} {xs:List Value}
theorem Fz.refl:Fz base t w w:=⟨Below.refl _ _,Kp.refl _,fun _ _ h _=>h⟩
theorem Fz.trans(h:Fz base t w w')(h':Fz base t w' w''):Fz base t w w'':=⟨h.below.trans h'.below,h.keep.trans h'.keep,fun k o e he=>h'.other k o (h.other k o e he) he⟩
theorem Fz.of_below(h:Below w.heap.size w w')(hb:base≤w.heap.size):Fz base t w w':=⟨h.mono hb,.of_below h,fun k o e _=>(h.block k (Array.getElem?_eq_some_iff.1 e).1).trans e⟩
theorem OwnN.own(h:OwnN w base t z v n xs):w.ownsRow base t z v n xs:=by
 refine⟨h.1,?_⟩
 rcases h.2 with h | ⟨g,cap,cur,h1,h2,h3,h4,h5,h6,h7,_⟩
 ·exact .inl h
 ·exact .inr ⟨g,cap,cur,h1,h2,h3,h4,h5,h6,h7⟩
theorem OwnN.below(h:OwnN w base t z v n xs)(hb:Below w.heap.size w w'):OwnN w' base t z v n xs:=by
 refine⟨h.1,?_⟩
 rcases h.2 with h | ⟨g,cap,cur,h1,h2,h3,h4⟩
 ·exact .inl h
 ·exact .inr ⟨g,cap,cur,h1,h2,h3.below hb,h4⟩
theorem OwnN.fz {base':Nat}(h:OwnN w base t z v n xs)(hf:Fz base' t' w w')(hne:t≠t'):OwnN w' base t z v n xs:=by
 refine⟨h.1,?_⟩
 rcases h.2 with h | ⟨g,cap,cur,h1,h2,h3,h4⟩
 ·exact .inl h
 ·exact .inr ⟨g,cap,cur,h1,h2,hf.other _ _ h3 (fun cs m e=>by injection e with _ e _;exact hne e),h4⟩
theorem OwnN.nil:OwnN w base t z (.slice none 0 0) 0 []:=⟨by simp,.inl ⟨rfl,rfl⟩⟩
theorem OwnN.form(h:OwnN w base t z v n xs)(hn:0<n) : ∃g c,v = .slice (some ⟨g,0,none⟩) n c∧base≤g∧n≤c∧c≤maxLen∧g<w.heap.size:=by
 rcases h.2 with ⟨_,h0⟩ | ⟨g,cap,cur,rfl,h2,h3,h4,h5,_⟩
 ·omega
 ·exact⟨g,cap,rfl,h2,h4,h5,h3.lt⟩
theorem OwnN.cellAt(h:OwnN w base t z (.slice (some ⟨g,0,none⟩) n cap) n xs)(j:Nat)(hj:j<n*z):w.cell? ⟨g,j,none⟩=xs[j]? := h.own.cellAt j hj
theorem OwnN.frozenAt(h:OwnN w base t z (.slice (some ⟨g,0,none⟩) n cap) n xs)(j:Nat):w.frozen? ⟨g,j,none⟩=false:=h.own.frozenAt j
theorem OwnN.blk(h:OwnN w base t z (.slice (some ⟨g,0,none⟩) n cap) n xs):base≤g∧n≤cap∧∃cur,Blk w g t cur:=by
 rcases h.2 with ⟨h0,_⟩ | ⟨g',cap',cur,h1,h2,h3,h4,h5,h6,h7,h8⟩
 ·simp at h0
 ·simp only [Value.slice.injEq,Option.some.injEq,Addr.mk.injEq,and_true,true_and] at h1
  obtain⟨rfl,rfl⟩:=h1
  exact⟨h2,h4,cur,h3⟩
theorem OwnN.stored(h:OwnN w base t z (.slice (some ⟨g,0,none⟩) n cap) n xs)(j:Nat)(u:Value)(hu:Nu u) :
 OwnN (w.setCell ⟨g,j,none⟩ u) base t z (.slice (some ⟨g,0,none⟩) n cap) n (xs.set j u)∧Fz base t w (w.setCell ⟨g,j,none⟩ u):=by
 rcases h.2 with ⟨h0,_⟩ | ⟨g',cap',cur,h1,h2,h3,h4,h5,h6,h7,h8⟩
 ·simp at h0
 ·simp only [Value.slice.injEq,Option.some.injEq,Addr.mk.injEq,and_true,true_and] at h1
  obtain⟨rfl,rfl⟩:=h1
  refine⟨⟨by simpa using h.1,.inr ⟨g,cap,cur.setIfInBounds j u,rfl,h2,h3.set_ j u,h4,h5,by simpa using h6,?_,fun x hx=>?_⟩⟩,⟨Below.setCell (Below.refl _ _) h2 _,⟨by simp [World.setCell],fun a y e=>?_⟩,fun k o e he=>?_⟩⟩
  ·rw [Array.toList_setIfInBounds,← h7,List.take_set]
  ·rw [Array.toList_setIfInBounds] at hx
   rcases List.mem_or_eq_of_mem_set hx with hx | rfl
   ·exact h8 _ hx
   ·exact hu
  ·by_cases hp:(⟨g,j,none⟩:Addr)=a
   ·subst hp
    rw [h3.cell j] at e
    exact absurd rfl (h8 _ (List.mem_of_getElem? (by rw [Array.getElem?_toList];exact e)) y)
   ·rw [World.cell?_setCell_other (w:=w) (v:=u) (a:=⟨g,j,none⟩) (b:=a) hp]
    exact e
  ·by_cases hb:k=g
   ·subst hb
    rw [show w.heap[k]? = _ from h3] at e
    injection e with e
    exact absurd e.symm (he _ _)
   ·exact(heap_setCell_other w ⟨g,j,none⟩ k u hb).trans e
theorem fz_setRow {cur cs:Array Value}(h3:Blk w g t cur)(h8 : ∀u∈cur.toList,Nu u)(hb:base≤g):Fz base t w (w.setRow g cs):=by
 refine⟨below_setRow (Below.refl _ _) hb _,⟨by simp,fun a y e=>?_⟩,fun k o e he=>?_⟩
 ·by_cases hp:a.block=g
  ·exfalso
   obtain⟨ab,ao,asp⟩:=a
   obtain rfl:ab=g:=hp
   have:cur[ao]? = some (.int .u32 y):=by
    unfold World.cell? at e
    rw [show w.heap[ab]? = _ from h3] at e
    simp only at e
    split at e
    ·cases e
    ·exact e
   exact h8 _ (List.mem_of_getElem? (by rw [Array.getElem?_toList];exact this)) y rfl
  ·rw [World.cell?_of_block (setRow_other w g a.block cs hp)]
   exact e
 ·by_cases hb:k=g
  ·subst hb
   rw [show w.heap[k]? = _ from h3] at e
   injection e with e
   exact absurd e.symm (he _ _)
  ·exact(setRow_other w g k cs hb).trans e
theorem fz_drew_alloc(o:Obj)(hb:base≤w.heap.size):Fz base t w (w.drew.alloc o) := .of_below ((Below.refl _ _).drew.trans (below_new w.drew o)) hb
theorem mem_zeroCells {z:Array Value} {n:Nat} {u:Value}(h:u∈(Builtin.zeroCells z n).toList)(hz : ∀u∈z.toList,Nu u):Nu u:=by
 simp [Builtin.zeroCells] at h
 obtain⟨j,hj,h⟩:=h
 have hs:0<z.size:=by
  rcases Nat.eq_zero_or_pos z.size with h0 | h0
  ·rw [h0] at hj;omega
  ·exact h0
 have hlt:=Nat.mod_lt j hs
 rw [getElem!_pos z (j % z.size) hlt] at h
 exact hz u (by rw [← h];simp)
theorem run_append_ownN {P:Program}(ty tt e:TypeId)(i:TypeInfo)(z:Value)(size bytes:Nat)(ht:P.underlying tt=some (.slice e))(hi:P.info? e=some i)(hz:i.zero=some z)
 (hsize:i.size=size) (hby:i.bytes=bytes) (hzs:z.cells.size=size) (hsz:0<size) (hzn : ∀u∈z.cells.toList,Nu u)
 (hown:OwnN w base e size v n xs) (a:Addr) (m c:Nat) (news:List Value) (hl:news.length=m*size) (hnews : ∀j u,news[j]? = some u→w.cell? (a.add j)=some u) (h1 : ∀u∈news,u.oneCell'=true) (hnn : ∀u∈news,Nu u)
 (h63:n+m≤maxLen) (hbytes:(n+m)*bytes≤140737488355328) (hbase:base≤w.heap.size) :
 ∃v' w',(Builtin.append_ #[tt,tt] ty #[v,.slice (some a) m c]).run P w = .ok v' w'∧OwnN w' base e size v' (n+m) (xs ++ news)∧Fz base e w w':=by
 subst hsize
 subst hby
 have hsmall:n+m≤9223372036854775807:=by simp only [maxLen] at h63;omega
 have hlen:(xs ++ news).length=(n+m)*i.size:=by rw [List.length_append,hown.1,hl,Nat.add_mul]
 have grown : ∀ (old:Nat),old<n+m→(∀u∈xs,Nu u)→
  OwnN (w.drew.alloc (.cells (xs.toArray ++ news.toArray ++ Builtin.zeroCells z.cells (grownCap w (n+m) old e - (n+m))) e)) base e i.size
   (.slice (some ⟨w.heap.size,0,none⟩) (n+m) (grownCap w (n+m) old e)) (n+m) (xs ++ news):=by
  intro old ho hxs
  have hge:=grownCap_ge w (n+m) old e
  have hcm:grownCap w (n+m) old e≤maxLen:=grownCap_le_maxLen w (n+m) old e h63
  refine⟨hlen,.inr ⟨w.heap.size,_,_,rfl,hbase,heap_alloc_new w.drew _,hge,hcm,?_,?_,fun u hu=>?_⟩⟩
  ·simp only [Array.size_append,List.size_toArray,size_zeroCells,hzs,hown.1,hl,← Nat.add_mul]
   congr 1
   omega
  ·simp only [Array.toList_append,List.append_assoc]
   rw [← List.append_assoc,← hlen]
   exact List.take_left
  ·simp only [Array.toList_append,List.mem_append] at hu
   rcases hu with (hu | hu) | hu
   ·exact hxs u hu
   ·exact hnn u hu
   ·exact mem_zeroCells hu hzn
 rcases hown.2 with ⟨rfl,rfl⟩ | ⟨g,cap,cur,rfl,hbg,hg,hnc,hcm,hcs,htake,hnu⟩
 ·have hx:xs = []:=List.eq_nil_of_length_eq_zero (by simpa using hown.1)
  subst hx
  by_cases hm:m=0
  ·subst hm
   have hn:news = []:=List.eq_nil_of_length_eq_zero (by simpa using hl)
   subst hn
   refine⟨.slice none 0 0,w,?_,OwnN.nil,Fz.refl⟩
   simp [Builtin.append_,run_underlying ht,sizeOf,typeInfo,hi,Builtin.lenOf,Builtin.firstCells,loadCells,loadCellsFrom]
  ·have hr:=run_append_nil (P:=P) w tt ty e i z ht hi hz a m c news hl hnews j0a j0a (by have hb:=hbytes;simp only [Nat.zero_add] at hb;omega)
   have hgr:=grown 0 j0a j0b
   simp only [Nat.zero_add,List.nil_append,Array.empty_append] at hgr ⊢
   exact⟨_,_,hr,hgr,fz_drew_alloc _ hbase⟩
 ·by_cases hroom:n+m≤cap
  ·have hfit:n*i.size+news.length≤cur.size:=by rw [hl,hcs,← Nat.add_mul];exact Nat.mul_le_mul_right _ hroom
   have hr:=run_append_room (P:=P) w tt ty e i ht hi g n cap cur hg a m c news hl hnews h1 hroom hfit
   refine⟨_,_,hr,⟨hlen,.inr ⟨g,cap,_,rfl,hbg,setRow_heap w g cur _ e _ hg,hroom,hcm,?_,?_,fun u hu=>?_⟩⟩,fz_setRow hg hnu hbg⟩
   ·simp only [List.size_toArray,List.length_append,List.length_take,List.length_drop,Array.length_toList]
    omega
   ·rw [htake,← hlen]
    exact List.take_left
   ·simp only [List.mem_append] at hu
    rcases hu with (hu | hu) | hu
    ·exact hnu u (List.mem_of_mem_take hu)
    ·exact hnn u hu
    ·exact hnu u (List.mem_of_mem_drop hu)
  ·have hxs : ∀u∈xs,Nu u:=fun u hu=>hnu u (List.mem_of_mem_take (htake▸hu))
   have holds : ∀j u,xs[j]? = some u→w.cell? ((⟨g,0,none⟩:Addr).add j)=some u:=hown.own.cells (g:=g) rfl
   have hr:=run_append_grow (P:=P) w tt ty e i z ht hi hz ⟨g,0,none⟩ n cap xs hown.1 holds a m c news hl hnews j0a j0a (growslice_fits j0a hbytes)
   exact⟨_,_,hr,grown cap j0a hxs,fz_drew_alloc _ hbase⟩
end
end Go.Proofs.YtgilnmhejjpleaaGreat
