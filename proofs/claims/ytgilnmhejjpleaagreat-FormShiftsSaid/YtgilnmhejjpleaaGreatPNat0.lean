/- Merged of Mem,Law,Ca,Cc,Dec,Cn. -/
import Derived.Test.YtgilnmhejjpleaaGreatRows
import Derived.Below
import Derived.Laws.OwnMore
import Derived.Laws.MakeOwn
import Derived.Laws.CopyOwn
import Derived.Laws.NewBlocks
import Derived.Laws.Rows
import Derived.Lib.Hide
import Derived.WalkKit
import Derived.WalkSpells
import Derived.Laws.AppendOwnNone
import Derived.BigQuiet
import Derived.Deep.QuietTactic
import Derived.Laws.BytesArg
namespace Go.Proofs.YtgilnmhejjpleaaGreat
open Go.RowKit
theorem j0i3 {P:Prop}(h:P:=by omega):P:=h
theorem j22u {P:Prop}(h:P:=by simp only [maxLen]; omega):P:=h
theorem jb6b {P:Prop}(h:P:=by simp; omega):P:=h
theorem jpu1 {P:Prop}(h:P:=by decide):P:=h
theorem jupy {P:Prop}(h:P:=by simp):P:=h
theorem add_block(a:Addr)(n:Nat):(a.add n).block=a.block:=by unfold Addr.add;split <;> rfl
theorem add_add(a:Addr)(i j:Nat):(a.add i).add j=a.add (i+j):=by
 unfold Addr.add
 by_cases hi:i=0 <;> by_cases hj:j=0 <;> simp [hi,hj,Nat.add_assoc]
theorem add_mk(g o n:Nat):(⟨g,o,none⟩:Addr).add n=⟨g,o+n,none⟩:=by
 unfold Addr.add
 by_cases hn:n=0 <;> simp [hn]
def Rd(K:IntKind)(w:World)(A:Option Addr)(n:Nat)(f:Nat→Nat):Prop :=
 ∀j,j<n→∃ad,A=some ad∧w.cell? (ad.add j)=some (.int K (f j:Nat))
def Wr(g:Nat)(w w':World):Prop:=w.grownBy w' (some g)
def Off(A:Option Addr)(g:Nat):Prop := ∀ad,A=some ad→ad.block≠g
section
variable {K:IntKind} {w w' w'':World} {A:Option Addr} {n m g:Nat} {f:Nat→Nat}
theorem Rd.zero:Rd K w A 0 f:=fun _ h=>absurd h j0i3
theorem Rd.drew(h:Rd K w A n f):Rd K w.drew A n f:=h
theorem Rd.less(h:Rd K w A n f)(hm:m≤n):Rd K w A m f:=fun j hj=>h j j0i3
theorem Rd.below(h:Rd K w A n f)(hb:Below w.heap.size w w'):Rd K w' A n f:=fun j hj=>by
 obtain⟨ad,e,hc⟩:=h j hj
 exact⟨ad,e,(hb.cell (p:=ad.add j) (block_lt_of_cell hc)).trans hc⟩
theorem Rd.wr(h:Rd K w A n f)(ho:Off A g)(hb:Wr g w w'):Rd K w' A n f:=fun j hj=>by
 obtain⟨ad,e,hc⟩:=h j hj
 refine⟨ad,e,hb.cell hc ?_⟩
 rw [add_block]
 intro he
 exact ho ad e (Option.some.inj he)
theorem Rd.at_ {ad:Addr}(h:Rd K w (some ad) n f) {j:Nat}(hj:j<n):w.cell? (ad.add j)=some (.int K (f j:Nat)):=by
 obtain⟨ad',e,hc⟩:=h j hj
 injection e with e
 subst e
 exact hc
theorem Rd.off_lt(h:Rd K w A n f)(hn:0<n)(hg:w.heap.size≤g):Off A g:=fun ad e he=>by
 obtain⟨ad',e',hc⟩:=h 0 hn
 rw [e] at e'
 injection e' with e'
 subst e'
 have:=block_lt_of_cell hc
 rw [add_block] at this
 omega
theorem Wr.refl:Wr g w w:=⟨rfl,rfl,rfl,Nat.le_refl _,fun _ _ _=>rfl⟩
theorem Wr.trans(h:Wr g w w')(h':Wr g w' w''):Wr g w w'' :=
 ⟨h'.os.trans h.os,h'.tape.trans h.tape,h'.output.trans h.output,Nat.le_trans h.size h'.size,fun k hk hne =>
  (h'.block k (Nat.lt_of_lt_of_le hk h.size) hne).trans (h.block k hk hne)⟩
theorem Wr.set_(w:World)(g i:Nat)(v:Value):Wr g w (w.setCell ⟨g,i,none⟩ v) :=
 ⟨rfl,rfl,rfl,by simp [World.setCell],fun k _ hne=>Below.heap_setCell w ⟨g,i,none⟩ v k (fun e=>hne (by rw [e]))⟩
theorem Wr.setCell(h:Wr g w w')(i:Nat)(v:Value):Wr g w (w'.setCell ⟨g,i,none⟩ v):=h.trans (Wr.set_ _ _ _ _)
theorem Wr.drew(h:Wr g w w'):Wr g w w'.drew:=⟨h.os,h.tape,h.output,h.size,h.block⟩
theorem Wr.below {B:Nat} {a:World}(h:Wr g w w')(hb:Below B a w)(hB:B≤w.heap.size)(hg:B≤g):Below B a w' :=
 hb.grown h hB fun k hk=>by injection hk with hk;omega
end
def Row(K:IntKind)(t:TypeId)(w:World)(g sz:Nat)(f:Nat→Nat):Prop :=
 ∃cs:Array Value,w.heap[g]? = some (.cells cs t (0,0))∧cs.size=sz∧∀j,j<sz→cs[j]? = some (.int K (f j:Nat))
def upd(f:Nat→Nat)(i v:Nat):Nat→Nat:=fun j=>if j=i then v else f j
theorem upd_same(f:Nat→Nat)(i v:Nat):upd f i v i=v:=by simp [upd]
theorem upd_ne(f:Nat→Nat)(i v:Nat) {j:Nat}(h:j≠i):upd f i v j=f j:=by simp [upd,h]
section
variable {K:IntKind} {t:TypeId} {w w':World} {g sz:Nat} {f:Nat→Nat}
theorem Row.lt(h:Row K t w g sz f):g<w.heap.size:=by
 obtain⟨cs,hg,_⟩:=h
 rcases Nat.lt_or_ge g w.heap.size with hlt | hge
 ·exact hlt
 ·rw [Array.getElem?_eq_none hge] at hg;cases hg
theorem Row.cell(h:Row K t w g sz f) {j:Nat}(hj:j<sz):w.cell? ⟨g,j,none⟩=some (.int K (f j:Nat)):=by
 obtain⟨cs,hg,_,hc⟩:=h
 rw [cell_of_row w g j cs t (0,0) hg,hc j hj]
theorem Row.frozen(h:Row K t w g sz f)(j:Nat):w.frozen? ⟨g,j,none⟩=false:=by
 obtain⟨cs,hg,_⟩:=h
 exact frozen_of_row w g j cs t hg
theorem Row.set_(h:Row K t w g sz f)(i v:Nat):Row K t (w.setCell ⟨g,i,none⟩ (.int K (v:Nat))) g sz (upd f i v):=by
 obtain⟨cs,hg,hs,hc⟩:=h
 refine⟨cs.setIfInBounds i (.int K (v:Nat)),?_,by simpa using hs,fun j hj=>?_⟩
 ·simp [World.setCell,Array.getElem?_modify,hg]
 ·by_cases hji:j=i
  ·subst hji;rw [upd_same];simp [hs,hj]
  ·rw [upd_ne _ _ _ hji,Array.getElem?_setIfInBounds_ne (fun e=>hji e.symm)];exact hc j hj
theorem Row.congr {f':Nat→Nat}(h:Row K t w g sz f)(he : ∀j,j<sz→f j=f' j):Row K t w g sz f':=by
 obtain⟨cs,hg,hs,hc⟩:=h
 exact⟨cs,hg,hs,fun j hj=>by rw [hc j hj,he j hj]⟩
theorem Row.rd(h:Row K t w g sz f) {o n:Nat}(hn:o+n≤sz):Rd K w (some ⟨g,o,none⟩) n (fun j=>f (o+j)):=fun j hj =>
 ⟨_,rfl,by rw [add_mk];exact h.cell j0i3⟩
theorem Row.rd0(h:Row K t w g sz f) {n:Nat}(hn:n≤sz):Rd K w (some ⟨g,0,none⟩) n f:=fun j hj =>
 ⟨_,rfl,by rw [add_mk,Nat.zero_add];exact h.cell j0i3⟩
theorem Row.wr {g':Nat}(h:Row K t w g sz f)(hne:g≠g')(hb:Wr g' w w'):Row K t w' g sz f:=by
 have hlt:=h.lt
 obtain⟨cs,hg,r⟩:=h
 exact⟨cs,(hb.block g hlt (fun e=>hne (Option.some.inj e))).trans hg,r⟩
theorem Row.below {B:Nat}(h:Row K t w g sz f)(hb:Below B w w')(hB:g<B):Row K t w' g sz f:=by
 obtain⟨cs,hg,r⟩:=h
 exact⟨cs,(hb.block g hB).trans hg,r⟩
theorem Row.keep(h:Row K t w g sz f)(hb:Below w.heap.size w w'):Row K t w' g sz f:=h.below hb h.lt
theorem Row.drew(h:Row K t w g sz f):Row K t w.drew g sz f:=h
theorem madeCells_get(z:Value)(n j:Nat)(hj:j<n):(madeCells #[z] n)[j]? = some z:=by
 simp [madeCells,hj,Nat.mod_one]
theorem Row.made(w:World)(n:Nat):Row K t (w.alloc (.cells (madeCells #[.int K 0] n) t)) w.heap.size n (fun _=>0) :=
 ⟨_,heap_alloc_new w _,size_madeCells _ _,fun _ hj=>madeCells_get _ _ _ hj⟩
end
def num(B:Nat)(f:Nat→Nat):Nat→Nat
 | 0=>0
 |n+1=>num B f n+f n*B ^ n
def Trimmed(f:Nat→Nat)(n:Nat):Prop:=n=0∨f (n - 1)≠0
def tlen(f:Nat→Nat):Nat→Nat
 | 0=>0
 |n+1=>if f n=0 then tlen f n else n+1
section
variable {B:Nat} {f f':Nat→Nat} {n m:Nat}
theorem num_succ:num B f (n+1)=num B f n+f n*B ^ n:=rfl
theorem num_congr : ∀n,(∀j,j<n→f j=f' j)→num B f n=num B f' n
 | 0,_=>rfl
 |n+1,h=>by rw [num_succ,num_succ,num_congr n (fun j hj=>h j j0i3),h n j0i3]
theorem num_zeros : ∀n,(∀j,j<n→f j=0)→num B f n=0
 | 0,_=>rfl
 |n+1,h=>by rw [num_succ,num_zeros n (fun j hj=>h j j0i3),h n j0i3];simp
theorem num_add : ∀m,num B f (n+m)=num B f n+B ^ n*num B (fun j=>f (n+j)) m
 | 0=>by simp [num]
 |m+1=>by
  rw [← Nat.add_assoc,num_succ,num_add m,num_succ,Nat.pow_add,Nat.mul_add,Nat.add_assoc]
  congr 1
  congr 1
  rw [Nat.mul_comm (f (n+m)),Nat.mul_assoc,Nat.mul_comm (B ^ m)]
theorem num_lt(hB:0<B) : ∀n,(∀j,j<n→f j<B)→num B f n<B ^ n
 | 0,_=>by simp [num]
 |n+1,h=>by
  have h1:=num_lt hB n (fun j hj=>h j j0i3)
  have h2:=h n j0i3
  rw [num_succ,Nat.pow_succ,Nat.mul_comm (B ^ n)]
  have h3:(f n+1)*B ^ n≤B*B ^ n:=Nat.mul_le_mul_right _ h2
  rw [Nat.add_mul,Nat.one_mul] at h3
  omega
theorem num_first(h:0<n):num B f n=f 0+B*num B (fun j=>f (j+1)) (n - 1):=by
 obtain⟨k,rfl⟩ : ∃k,n=1+k:=⟨n - 1,by omega⟩
 rw [num_add]
 have e:(fun j=>f (1+j))=fun j=>f (j+1):=funext fun j=>by rw [Nat.add_comm]
 simp [num,e]
theorem num_inj(hB:0<B) : ∀n,(∀j,j<n→f j<B)→(∀j,j<n→f' j<B)→num B f n=num B f' n→∀j,j<n→f j=f' j
 | 0,_,_,_=>fun j hj=>absurd hj j0i3
 |n+1,h,h',he=>by
  have h1:=num_lt hB n (fun j hj=>h j j0i3)
  have h2:=num_lt hB n (fun j hj=>h' j j0i3)
  rw [num_succ,num_succ] at he
  have hp:0<B ^ n:=Nat.pow_pos hB
  have e1:f n=f' n:=by
   have a1:(num B f n+f n*B ^ n) / B ^ n=f n:=by rw [Nat.add_mul_div_right _ _ hp,Nat.div_eq_of_lt h1,Nat.zero_add]
   have a2:(num B f' n+f' n*B ^ n) / B ^ n=f' n:=by rw [Nat.add_mul_div_right _ _ hp,Nat.div_eq_of_lt h2,Nat.zero_add]
   rw [← a1,← a2,he]
  have e2:num B f n=num B f' n:=by rw [e1] at he;omega
  intro j hj
  by_cases hjn:j=n
  ·subst hjn;exact e1
  ·exact num_inj hB n (fun j hj=>h j j0i3) (fun j hj=>h' j j0i3) e2 j j0i3
theorem Trimmed.low(h:Trimmed f n)(hn:0<n):B ^ (n - 1)≤num B f n:=by
 obtain⟨k,rfl⟩ : ∃k,n=k+1:=⟨n - 1,by omega⟩
 rcases h with h | h
 ·omega
 ·rw [num_succ]
  simp only [Nat.add_sub_cancel] at h ⊢
  have:1*B ^ k≤f k*B ^ k:=Nat.mul_le_mul_right _ j0i3
  omega
theorem Trimmed.len(h:Trimmed f n)(hB:1<B) {k:Nat}(hk:num B f n<B ^ k):n≤k:=by
 rcases Nat.eq_zero_or_pos n with h0 | h0
 ·omega
 ·have h1:=h.low h0 (B:=B)
  have h2:B ^ (n - 1)<B ^ k := j0i3
  have:=(Nat.pow_lt_pow_iff_right hB).1 h2
  omega
theorem Trimmed.pos(h:Trimmed f n)(hB:0<B)(hn:0<n):0<num B f n:=by
 have:=h.low hn (B:=B)
 have hp:0<B ^ (n - 1):=Nat.pow_pos hB
 omega
theorem Trimmed.uniq(h:Trimmed f n)(h':Trimmed f' m)(hB:1<B)(hf : ∀j,j<n→f j<B)(hf' : ∀j,j<m→f' j<B)(he:num B f n=num B f' m) :
 n=m∧∀j,j<n→f j=f' j:=by
 have h1:n≤m:=h.len hB (by rw [he];exact num_lt j0i3 m hf')
 have h2:m≤n:=h'.len hB (by rw [← he];exact num_lt j0i3 n hf)
 obtain rfl:n=m := j0i3
 exact⟨rfl,num_inj j0i3 n hf hf' he⟩
theorem tlen_le : ∀n,tlen f n≤n
 | 0=>Nat.le_refl _
 |n+1=>by have:=tlen_le n;simp only [tlen];split <;> omega
theorem tlen_trimmed : ∀n,Trimmed f (tlen f n)
 | 0 => .inl rfl
 |n+1=>by
  simp only [tlen]
  split
  ·exact tlen_trimmed n
  ·right;simpa
theorem num_tlen : ∀n,num B f (tlen f n)=num B f n
 | 0=>rfl
 |n+1=>by
  simp only [tlen]
  split
  ·rename_i h;rw [num_tlen n,num_succ,h];simp
  ·rfl
theorem tlen_eq {k:Nat}(hk:k≤n)(hz : ∀j,k≤j→j<n→f j=0)(ht:Trimmed f k):tlen f n=k:=by
 induction n with
 |zero=>simp [tlen];omega
 |succ n ih =>
  simp only [tlen]
  by_cases hkn:k=n+1
  ·subst hkn
   rcases ht with h | h
   ·omega
   ·rw [if_neg (by simpa using h)]
  ·rw [if_pos (hz n j0i3 j0i3)]
   exact ih j0i3 (fun j h1 h2=>hz j h1 j0i3)
theorem num_upd(i v:Nat)(h:n≤i):num B (upd f i v) n=num B f n:=num_congr n fun j hj=>upd_ne _ _ _ j0i3
theorem num_eq_zero(hB:0<B) : ∀n,num B f n=0→∀j,j<n→f j=0
 | 0,_,j,hj=>absurd hj j0i3
 |n+1,h,j,hj=>by
  rw [num_succ] at h
  have hp:0<B ^ n:=Nat.pow_pos hB
  have h1:num B f n=0 := j0i3
  have h2:f n*B ^ n=0 := j0i3
  have h3:f n=0:=by
   rcases Nat.mul_eq_zero.1 h2 with h | h
   ·exact h
   ·omega
  by_cases hjn:j=n
  ·subst hjn;exact h3
  ·exact num_eq_zero hB n h1 j j0i3
theorem tlen_zero_iff(hB:0<B):tlen f n=0↔num B f n=0:=by
 constructor
 ·intro h;rw [← num_tlen n,h];rfl
 ·intro h
  exact tlen_eq (Nat.zero_le _) (fun j _ hj=>num_eq_zero hB n h j hj) (.inl rfl)
end
end Go.Proofs.YtgilnmhejjpleaaGreat
namespace Go.Proofs.YtgilnmhejjpleaaGreat
open Go.RowKit
theorem wpList_make_row {P:Program} {w:World} {ops:Array Oper} {rest:List Oper} {o:Oper} {a:Act} {Q:Exit→Act→World→Prop}
 (hg:o.guard=none) (l c:Operand) (t:TypeId) (hop:o.op=Op.makeSlice t l c)
 (K:IntKind) (e:TypeId) (h1:P.underlying t=some (.slice e)) (bytes:Nat) (h2:(P.info? e).map (fun i=>(i.zero,i.size,i.bytes))=some (some (.int K 0),1,bytes)) (hby:bytes≤8)
 (kl kc:IntKind) (L C:Int) (n:Nat) (hl:a.eval l = .int kl L) (hc:a.eval c = .int kc C) (hL:L=(n:Int)) (hC:C=(n:Int)) (b2:n≤17592186044416)
 (hK : ∀w',Row K e w' w.heap.size n (fun _=>0)→Below w.heap.size w w'→w'.heap.size=w.heap.size+1→wpList P ops Q rest (a.put o.dst (.slice (some ⟨w.heap.size,0,none⟩) n n)) w') :
 wpList P ops Q (o :: rest) a w:=by
 refine wpList_plain hg fun K' hK'=>?_
 obtain⟨i,hi,hz0,hz1,hz2⟩:=info_parts h2
 have hrun:=run_make (P:=P) w t e i (.int K 0) h1 hi hz0 kl kc n n j0i3 j0i3 (by rw [hz2];have:(bytes:Int)*n≤8*n:=Int.mul_le_mul_of_nonneg_right j0i3 j0i3;omega) j0i3
 subst hL
 subst hC
 unfold Oper.wp
 simp only [Int.toNat_natCast,hz1,Nat.mul_one] at hrun
 have hcells:(Value.int K 0).cells = #[.int K 0]:=rfl
 rw [hcells] at hrun
 simp [execOp,hop,hl,hc,hrun,Result.andThen]
 exact hK' _ _ (hK _ (Row.made w n) ((Below.refl _ _).alloc (Nat.le_refl _) _) jupy)
def splF(f:Nat→Nat)(o m:Nat)(s:Nat→Nat):Nat→Nat:=fun j=>if o≤j∧j<o+m then s (j - o) else f j
theorem wpList_copy_rd {P:Program} {w:World} {ops:Array Oper} {rest:List Oper} {o:Oper} {a:Act} {Q:Exit→Act→World→Prop}(hgd:o.guard=none)(d s:Operand)(dT sT:TypeId)
 (ho:o.op = .call { callee := .builtin .copy,args := #[d,s],argTypes := #[dT,sT] }) (elem:TypeId) (hu:P.underlying dT=some (.slice elem)) (hsz:(P.info? elem).map (·.size)=some 1)
 (K:IntKind) (g off dLen dCap:Nat) (A:Option Addr) (sLen sCap:Nat) (hd:a.eval d = .slice (some ⟨g,off,none⟩) dLen dCap) (hs:a.eval s = .slice A sLen sCap)
 (t:TypeId) (sz:Nat) (f:Nat→Nat) (hrow:Row K t w g sz f) (fs:Nat→Nat) (m:Nat) (hm:m=Nat.min sLen dLen) (hrd:Rd K w A m fs) (hfit:off+m≤sz)
 (h : ∀w',Row K t w' g sz (splF f off m fs)→Wr g w w'→w'.heap.size=w.heap.size→wpList P ops Q rest (a.put o.dst (.int .i64 (m:Nat))) w') :
 wpList P ops Q (o :: rest) a w:=by
 have e0 : ∀x:Nat,goInt x = .int .i64 (x:Nat):=fun _=>rfl
 by_cases h0:m=0
 ·refine wpList_copy_nothing hgd d s dT sT ho elem hu hsz (some ⟨g,off,none⟩) A dLen dCap sLen sCap hd hs (by rw [← hm];exact h0) ?_
  have:=h w (hrow.congr fun j _=>by simp only [splF];rw [if_neg j0i3]) Wr.refl rfl
  rw [h0] at this
  exact this
 ·obtain⟨ad,rfl,_⟩:=hrd 0 j0i3
  obtain⟨cur,hg,hcs,hcell⟩:=hrow
  have hlen:((List.range m).map (fun j=>Value.int K (fs j:Nat))).length=m := jupy
  refine wpList_copy_own hgd d s dT sT ho elem hu hsz g off dLen dCap ad sLen sCap hd hs cur t hg ((List.range m).map (fun j=>Value.int K (fs j:Nat))) (by rw [hlen,hm]) ?_ (by rw [hlen,hcs];exact hfit) ?_ ?_
  ·intro j v hv
   have hj:j<m:=by
    rcases Nat.lt_or_ge j m with hh | hh
    ·exact hh
    ·rw [List.getElem?_eq_none (by simpa using hh)] at hv;cases hv
   simp [hj] at hv
   rw [hrd.at_ hj,hv]
  ·intro v hv
   simp at hv
   obtain⟨j,_,rfl⟩:=hv
   rfl
  ·rw [hlen]
   have hbl:(w.setRow g ((cur.toList.take off ++ ((List.range m).map (fun j=>Value.int K (fs j:Nat)) ++ cur.toList.drop (off+m))).toArray)).heap[g]? = _:=setRow_heap w g cur _ t _ hg
   refine h _ ⟨_,hbl,?_,?_⟩ ⟨rfl,rfl,rfl,by simp,fun k _ hne=>setRow_other w g k _ (fun e=>hne (by rw [e]))⟩ jupy
   ·simp [hcs];omega
   ·intro j hj
    have hcl:cur.toList.length=sz:=by simp [hcs]
    simp only [List.getElem?_toArray,splF]
    by_cases h1:j<off
    ·rw [if_neg j0i3,List.getElem?_append_left (by simp [hcs];omega),List.getElem?_take,if_pos h1,Array.getElem?_toList]
     exact hcell j hj
    ·rw [List.getElem?_append_right jb6b]
     have hl1:(List.take off cur.toList).length=off:=by simp [hcs];omega
     rw [hl1]
     by_cases h2:j<off+m
     ·rw [if_pos ⟨by omega,h2⟩,List.getElem?_append_left jb6b]
      rw [List.getElem?_map,List.getElem?_range j0i3]
      rfl
     ·rw [if_neg j0i3,List.getElem?_append_right jb6b,hlen,List.getElem?_drop,Array.getElem?_toList]
      rw [show off+m+(j - off - m)=j from j0i3]
      exact hcell j hj
def Own(K:IntKind)(t:TypeId)(w:World)(base:Nat)(v:Value)(n:Nat)(f:Nat→Nat):Prop :=
 w.ownsRow base t 1 v n ((List.range n).map fun j=>Value.int K (f j:Nat))
section
variable {K:IntKind} {t:TypeId} {w w':World} {base n:Nat} {v:Value} {f:Nat→Nat}
theorem Own.nil:Own K t w base (.slice none 0 0) 0 f:=World.ownsRow_nil w base t 1
theorem Own.congr {f':Nat→Nat}(h:Own K t w base v n f)(he : ∀j,j<n→f j=f' j):Own K t w base v n f':=by
 unfold Own at *
 have e:((List.range n).map fun j=>Value.int K (f j:Nat))=(List.range n).map fun j=>Value.int K (f' j:Nat):=List.map_congr_left fun j hj=>by rw [he j (by simpa using hj)]
 rw [← e]
 exact h
theorem Own.form(h:Own K t w base v n f):(v = .slice none 0 0∧n=0)∨∃g c,v = .slice (some ⟨g,0,none⟩) n c∧base≤g∧n≤c:=by
 rcases h.2 with h | ⟨g,c,cur,rfl,hb,_,hc,_⟩
 ·exact .inl h
 ·exact .inr ⟨g,c,rfl,hb,hc⟩
theorem Own.rd_ {A:Option Addr} {c:Nat}(h:Own K t w base (.slice A n c) n f):Rd K w A n f:=fun j hj=>by
 rcases h.form with ⟨_,h0⟩ | ⟨g,c',hv,_⟩
 ·omega
 ·injection hv with hA _ hc
  subst hA
  refine⟨_,rfl,?_⟩
  rw [add_mk,Nat.zero_add]
  have:=World.ownsRow.cellAt (g:=g) (cap:=c) h j j0i3
  rw [this]
  simp [hj]
theorem Own.alloc(h:Own K t w base v n f)(o:Obj):Own K t (w.alloc o) base v n f:=World.ownsRow.alloc h o
end
def appF(f:Nat→Nat)(n:Nat)(g:Nat→Nat):Nat→Nat:=fun j=>if j<n then f j else g (j - n)
theorem map_app {K:IntKind}(f:Nat→Nat)(n m:Nat)(g:Nat→Nat) :
 ((List.range n).map fun j=>Value.int K (f j:Nat)) ++ ((List.range m).map fun j=>Value.int K (g j:Nat))=(List.range (n+m)).map fun j=>Value.int K (appF f n g j:Nat):=by
 apply List.ext_getElem?
 intro i
 by_cases hi:i<n
 ·rw [List.getElem?_append_left (by simpa using hi)]
  simp [hi,appF,show i<n+m from j0i3]
 ·rw [List.getElem?_append_right (by simpa using hi)]
  by_cases hm:i<n+m
  ·simp [hi,hm,appF,show i - n<m from j0i3]
  ·simp [hm,show ¬i - n<m from j0i3]
theorem wpList_app {P:Program} {w:World} {ops:Array Oper} {rest:List Oper} {o:Oper} {a:Act} {Q:Exit→Act→World→Prop}(hgd:o.guard=none)(s x:Operand)(t:TypeId)
 (ho:o.op = .call { callee := .builtin .append,args := #[s,x],argTypes := #[t,t] })
 (K:IntKind) (e:TypeId) (ht:P.underlying t=some (.slice e)) (bytes:Nat) (hinfo:(P.info? e).map (fun i=>(i.zero,i.size,i.bytes))=some (some (.int K 0),1,bytes)) (hby:bytes≤8)
 (base:Nat) (v:Value) (n:Nat) (f:Nat→Nat) (hs:a.eval s=v) (hown:Own K e w base v n f)
 (A:Option Addr) (m c:Nat) (g:Nat→Nat) (hx:a.eval x = .slice A m c) (hr:Rd K w A m g) (hA:A=none→m=0∧c=0)
 (hnm:n+m≤17592186044416) (hbase:base≤w.heap.size)
 (h : ∀v' w',Own K e w' base v' (n+m) (appF f n g)→Below base w w'→w.heap.size≤w'.heap.size→wpList P ops Q rest (a.put o.dst v') w'):wpList P ops Q (o :: rest) a w:=by
 obtain⟨i,hi,hz0,hz1,hz2⟩:=info_parts hinfo
 rcases A with _ | ad
 ·obtain⟨rfl,rfl⟩:=hA rfl
  refine wpList_append_own_none hgd s x t ho base e i 1 ht hi v n _ hs hown hx ?_
  exact h v w (hown.congr fun j hj=>by simp [appF,hj]) (Below.refl _ _) (Nat.le_refl _)
 ·have hb:(n+m)*bytes≤140737488355328:=by
   have:(n+m)*bytes≤17592186044416*8:=Nat.mul_le_mul hnm hby
   omega
  refine wpList_append_own w hgd s x t ho base e i (.int K 0) 1 bytes ht hi hz0 hz1 hz2 rfl j0i3 v n _ hs hown ad m c ((List.range m).map fun j=>Value.int K (g j:Nat)) hx jupy ?_ ?_ j22u hb hbase ?_
  ·intro j u hu
   have hj:j<m:=by
    rcases Nat.lt_or_ge j m with hh | hh
    ·exact hh
    ·rw [List.getElem?_eq_none (by simpa using hh)] at hu;cases hu
   simp [hj] at hu
   rw [hr.at_ hj,hu]
  ·intro u hu
   simp at hu
   obtain⟨j,_,rfl⟩:=hu
   rfl
  ·intro v' w' h2 h3 _
   rw [map_app] at h2
   exact h v' w' h2 ((Below.refl _ _).grown h3 hbase fun k hk=>(World.ownsRow.lt hown k hk).1) h3.size
end Go.Proofs.YtgilnmhejjpleaaGreat
namespace Go.Proofs.YtgilnmhejjpleaaGreat
open Go.RowKit
set_option maxHeartbeats 400000 in
theorem cut_any(A:Option Addr)(n c:Nat)(f:Nat→Nat)(w:World)(hr:Rd .u32 w A n f)(hc:n≤c)(hm:n≤4611686018427387904) :
 Calls Tryz.prog 121 #[.slice A n c] w fun e w'=>e = .returned (.slice A (tlen f n) c)∧w=w':=by
 go_enter Tryz.func121,Tryz.ntmps121
 go_wp2
 go_loop [3] (fun v => ∃k:Nat,k≤n∧v = .int .i64 k∧∀j,k≤j→j<n→f j=0) (fun v=>(intOf v).toNat)
 case atStart=>exact⟨n,Nat.le_refl _,rfl,fun j hj hj'=>absurd hj j0i3⟩
 case round =>
  obtain⟨k,hk,rfl,hz⟩:=hrel
  have HR:=Lib.hid hr
  have HZ:=Lib.hid hz
  clear hr hz
  by_cases h0:k=0
  ·subst h0
   have g1:decide ((0:Int)<((0:Nat):Int))=false := jpu1
   go_wp2
   go_ret
   rw [tlen_eq hk HZ.out (.inl rfl)]
   exact⟨rfl,rfl⟩
  ·have hp:0<k:=by omega
   obtain⟨ad,rfl,hcell⟩:=HR.out (k - 1) j0i3
   by_cases hx:f (k - 1)=0
   ·rw [hx] at hcell
    have HX:=Lib.hid hx
    clear hx h0
    go_wp2
    go_round
    case rel=>exact⟨k - 1,by omega,by go_num,fun j h1 h2=>by
     by_cases hjk:j=k - 1
     ·subst hjk;exact HX.out
     ·exact HZ.out j j0i3 h2⟩
    case measure=>simp [intOf];omega
   ·have g2:((f (k - 1):Int) == 0)=false:=by
     rw [beq_eq_false_iff_ne];omega
    have HX:=Lib.hid hx
    clear hx h0
    go_wp2
    go_ret
    rw [tlen_eq hk HZ.out (.inr HX.out)]
    exact⟨rfl,rfl⟩
end Go.Proofs.YtgilnmhejjpleaaGreat
namespace Go.Proofs.YtgilnmhejjpleaaGreat
open Go.RowKit
theorem tlen_lt_dig {f:Nat→Nat} {n L:Nat}(h : ∀j,j<n→f j<L) : ∀j,j<tlen f n→f j<L:=fun j hj=>h j (Nat.lt_of_lt_of_le hj (tlen_le n))
theorem u32_info:(Tryz.prog.info? 117).map (fun i=>(i.zero,i.size,i.bytes))=some (some (.int .u32 0),1,4):=by kernel_rfl
theorem u32_size:(Tryz.prog.info? 117).map (·.size)=some 1:=by kernel_rfl
def TrimPost(w w':World)(e:Ending)(n:Nat)(f:Nat→Nat):Prop :=
 e = .returned (.slice (some ⟨w.heap.size,0,none⟩) (tlen f n) (tlen f n))∧∃f',Row .u32 117 w' w.heap.size (tlen f n) f'∧(∀j,j<tlen f n→f' j=f j)∧Below w.heap.size w w'∧w'.heap.size=w.heap.size+1
set_option maxHeartbeats 400000 in
theorem trim_any(A:Option Addr)(n c:Nat)(f:Nat→Nat)(w:World)(hr:Rd .u32 w A n f)(hc:n≤c)(hn:n≤17592186044416) :
 Calls Tryz.prog 102 #[.slice A n c] w fun e w'=>TrimPost w w' e n f:=by
 have ht:=tlen_le (f:=f) n
 go_enter Tryz.func102,Tryz.ntmps102
 go_wp2_with (first
  |(go_at_call 121;refine(cut_any A n c f _ hr hc j0i3).mono ?_;rintro e w' ⟨rfl,rfl⟩)
  |(at_make;refine wpList_make_row rfl _ _ 32 rfl .u32 117 Tryz.underlying32 4 u32_info j0i3 .i64 .i64 _ _ (tlen f n) rfl rfl rfl rfl j0i3 ?_;intro w1 hrow1 hb1 hs1)
  |(with_reducible refine wpList_copy_rd rfl (.tmp 9) (.tmp 10) 32 32 rfl 117 Tryz.underlying32 u32_size .u32 _ 0 (tlen f n) (tlen f n) A (tlen f n) c rfl rfl 117 (tlen f n) (fun _=>0) hrow1 f (tlen f n) jupy ((hr.below hb1).less ht) j0i3 ?_
    intro w2 hrow2 hwr2 hs2))
 go_ret
 exact⟨rfl,_,hrow2,fun j hj=>by simp only [splF];rw [if_pos j0i3,Nat.sub_zero],hwr2.below hb1 hb1.size (Nat.le_refl _),by omega⟩
def IsNat(w:World)(v:Value)(N:Nat):Prop :=
 ∃A n c f,v = .slice A n c∧n≤c∧Rd .u32 w A n f∧(∀j,j<n→f j<4294967296)∧Trimmed f n∧num 4294967296 f n=N
theorem IsNat.below {w w':World} {v:Value} {N:Nat}(h:IsNat w v N)(hb:Below w.heap.size w w'):IsNat w' v N:=by
 obtain⟨A,n,c,f,h1,h2,h3,h4⟩:=h
 exact⟨A,n,c,f,h1,h2,h3.below hb,h4⟩
def NatPost(w w':World)(e:Ending)(N:Nat):Prop := ∃v,e = .returned v∧IsNat w' v N∧Below w.heap.size w w'
theorem num_pad {B:Nat} {h:Nat→Nat} {m:Nat} : ∀n,m≤n→num B (fun j=>if j<m then h j else 0) n=num B h m
 | 0,hm=>by obtain rfl:m=0:=by omega
            rfl
 |n+1,hm=>by
  by_cases e:m=n+1
  ·subst e;exact num_congr _ fun j hj=>if_pos hj
  ·rw [num_succ,num_pad n j0i3,if_neg j0i3];simp
theorem isNat_row {t:TypeId} {w:World} {g sz:Nat} {f:Nat→Nat} {N:Nat}(h:Row .u32 t w g sz f) {n c:Nat}(hn:n≤sz)(hc:n≤c)(hf : ∀j,j<n→f j<4294967296)(hN:num 4294967296 f n=N) :
 IsNat w (.slice (some ⟨g,0,none⟩) (tlen f n) c) N :=
 ⟨_,_,_,f,rfl,Nat.le_trans (tlen_le n) hc,(h.rd0 hn).less (tlen_le n),fun j hj=>hf j (Nat.lt_of_lt_of_le hj (tlen_le n)),tlen_trimmed n,by rw [num_tlen,hN]⟩
theorem el22:Tryz.prog.underlying 32=some (.slice (Tryz.prog.elem 32)):=by kernel_rfl
theorem sz22(w:World):(sizeOf (Tryz.prog.elem 32)).run Tryz.prog w = .ok 1 w:=by kernel_rfl
theorem sl22_lh(g o len cap l h:Nat)(h1:l≤h)(h2:h≤cap)(h3:l<cap)(w:World) :
 (Instr.slice 32 (.slice (some ⟨g,o,none⟩) len cap) (some (.int .i64 l)) (some (.int .i64 h)) none).run Tryz.prog w = .ok (.slice (some ⟨g,o+l,none⟩) (h - l) (cap - l)) w:=by
 rw [run_slice_lh w 32 (some ⟨g,o,none⟩) len cap el22 .i64 .i64 l h j0i3 j0i3 j0i3,sz22]
 simp only [Result.andThen,sliced,Int.toNat_natCast,Nat.mul_one]
 rw [if_neg j0i3]
 simp only [Option.map_some,add_mk]
end Go.Proofs.YtgilnmhejjpleaaGreat
namespace Go.Proofs.YtgilnmhejjpleaaGreat
open Go.RowKit
section
variable {P:Program} (w:World)
end
end Go.Proofs.YtgilnmhejjpleaaGreat
namespace Go.Proofs.YtgilnmhejjpleaaGreat
open Go.RowKit
end Go.Proofs.YtgilnmhejjpleaaGreat
