/- A range over a function whose rounds may know of what they are handed that it lies in memory: own laws over the kit's. Nothing of the program is in here. -/
import Derived.Test.YtgilnmhejjpleaaGreatPFz
import Derived.RangeFuncBox
import Derived.RangeFuncLeaves
import Derived.RangeFuncCalls
import Derived.Shelf.Abstract
import Derived.OwnWalkIn
import Derived.TacticsInMore
import Derived.LoopNIn
import Derived.LoopIn
import Derived.IntWalk
import Derived.Scope
import Derived.Sort.QuietIn
namespace Go.Proofs.YtgilnmhejjpleaaGreat
open Go.RowKit Go.Shelf
set_option linter.unusedSimpArgs false
set_option linter.unusedVariables false
def SeqG {α:Type}(n:Nat)(P:Program)(gf:Nat)(lb:Array Value)(encs:α→Array Value)(M:World→Prop)(G:List α→α→World→Prop)(Kp:World→World→Prop)(S Sp:List α→Prop)(N:Nat)(W:World):Prop :=
 ∀ (l:Nat) (J Jx:List α→World→Prop),(∀pre V,J pre V→M V)→(∀pre V V',J pre V→Below V.heap.size V V'→J pre V')→(∀pre V V',Jx pre V→Below V.heap.size V V'→Jx pre V')→
   (∀pre x V,J pre V→pre.length<N→G pre x V→YieldAt Fence.wide (n - 1) P l (encs x) V fun e V'=>(e = .returned (.bool true)∧J (pre ++ [x]) V'∧Kp V V')∨(e = .returned (.bool false)∧Jx (pre ++ [x]) V'))→
   J [] W→CallsIn Fence.wide n P gf (#[.func (.yield l) #[] #[]] ++ lb) W fun e W'=>(∃v,e = .returned v)∧((∃xs,S xs∧J xs W')∨(∃pre,Sp pre∧Jx pre W'))
def RoundP(D:Nat)(V:World)(Kp:World→World→Prop)(I:World→Prop)(Ix:Code→World→Prop):Exit→Act→World→Prop
 | .normal,_,V'=>(V'.heap[D]? = V.heap[D]? ∧V'.heap[D+1]? = V.heap[D+1]?)∧Kp V V'∧I V'
 | .ret,_,V'=>(V'.heap[D]? = V.heap[D]? ∧V'.heap[D+1]? = V.heap[D+1]?)∧Ix .ret V'
 | .exit id,_,V'=>(V'.heap[D]? = V.heap[D]? ∧V'.heap[D+1]? = V.heap[D+1]?)∧Ix (.exit id) V'
 | _,_,_=>False
theorem rangeOwn {α:Type} {P:Program} {n:Nat} {g:Operand} {ps:Array Tmp} {assign body:Code} {Q:Exit→Act→World→Prop} {a:Act} {w:World} {gf:Nat} {lb:Array Value} {encs:α→Array Value} {M:World→Prop} {G:List α→α→World→Prop} {Kp:World→World→Prop} {S Sp:List α→Prop} {N:Nat}
 (hg:a.eval g = .func (.func gf) #[] lb) (eg : ∀args w,(callFunc gf args).run P w = .ok (.enter gf args) w) (hps : ∀x,(encs x).size=ps.size)
 (hseq : ∀W1,Below w.heap.size w W1→W1.heap.size=w.heap.size+2→SeqG (n - 1) P gf lb encs M G Kp S Sp N W1)
 (I:List α→World→Prop) (Ix:Code→List α→World→Prop) (A:List α→α→Act→World→Prop)
 (hM : ∀pre V,I pre V→M V) (hI : ∀pre V V',I pre V→Below V.heap.size V V'→I pre V') (hIx : ∀c pre V V',Ix c pre V→Below V.heap.size V V'→Ix c pre V')
 (hIp : ∀pre V r o,V.heap[w.heap.size+1]? = some (.loop r)→I pre V→I pre (V.putObj (w.heap.size+1) o)) (hIxp : ∀c pre V r o,V.heap[w.heap.size+1]? = some (.loop r)→Ix c pre V→Ix c pre (V.putObj (w.heap.size+1) o)) (hAp : ∀pre x a' V r o,V.heap[w.heap.size+1]? = some (.loop r)→A pre x a' V→A pre x a' (V.putObj (w.heap.size+1) o))
 (hKt : ∀ {X Y Z:World},Kp X Y→Kp Y Z→Kp X Z) (hKp : ∀V r o,V.heap[w.heap.size+1]? = some (.loop r)→Kp V (V.putObj (w.heap.size+1) o)) (h0:I [] w)
 (hassign : ∀pre x V r (K:Act→World→Prop),I pre V→G pre x V→V.heap[w.heap.size+1]? = some (.loop r)→V.heap[w.heap.size]? = some (.deferred (some []))→pre.length<N→
  (∀a' V',A pre x a' V'→V'.heap[w.heap.size]? = V.heap[w.heap.size]? →V'.heap[w.heap.size+1]? = V.heap[w.heap.size+1]? →Kp V V'→K a' V')→
  assign.wpIn (Fence.wide.inRound (w.heap.size+1)) (n - 1 - 1) P (Exit.then K (fun _ _ _=>False)) { tmps:=(ps.zip (encs x)).foldl (fun t (p,v)=>t.setIfInBounds p v) a.tmps,defers := [] } V)
 (hbody : ∀pre x a' V,A pre x a' V→V.heap[w.heap.size]? = some (.deferred (some []))→(∃r,V.heap[w.heap.size+1]? = some (.loop r))→body.wpIn (Fence.wide.inRound (w.heap.size+1)) (n - 1 - 1) P (RoundP w.heap.size V Kp (I (pre ++ [x])) (fun c=>Ix c (pre ++ [x]))) a' V)
 (hdone : ∀xs W,S xs→I xs W→W.heap[w.heap.size]? = some (.deferred (some []))→Q .normal { a with defers := { target := .collected w.heap.size,args := #[] } :: a.defers } W)
 (hstop : ∀c pre W,Sp pre→Ix c pre W→W.heap[w.heap.size]? = some (.deferred (some []))→c.wpIn Fence.wide n P Q { a with defers := { target := .collected w.heap.size,args := #[] } :: a.defers } W) :
 (Code.rangeFunc g ps assign body).wpIn Fence.wide n P Q a w:=by
 refine wpIn_rangeFunc fun fn hfn=>?_
 obtain⟨L,hL⟩ : ∃L:LoopState→Option Code→Loop,L=fun st pe => { state:=st,pending:=pe,fn,tmps:=a.tmps,params:=ps,assign,body,defers:=w.heap.size } := ⟨_,rfl⟩
 obtain⟨W1,hW1⟩ : ∃W1,(w.alloc (.deferred (some []))).alloc (.loop (L .ready none))=W1:=⟨_,rfl⟩
 have hb1:Below w.heap.size w W1:=by rw [← hW1];exact((Below.refl _ w).alloc (Nat.le_refl _) _).alloc j0b _
 have hs1:W1.heap.size=w.heap.size+2:=by rw [← hW1];simp
 have hl1:W1.heap[w.heap.size+1]? = some (.loop (L .ready none)):=by
  rw [← hW1]
  have:=World.alloc_heap_new (w.alloc (.deferred (some []))) (.loop (L .ready none))
  rwa [World.size_alloc] at this
 have hd1:W1.heap[w.heap.size]? = some (.deferred (some [])):=by rw [← hW1];exact(Below.heap_alloc _ _ _ j0b).trans (World.alloc_heap_new w _)
 have keepL : ∀ {V V':World} {k:Nat} {o:Obj},V.heap[k]? = some o→Below V.heap.size V V'→V'.heap[k]? = some o:=fun h hb=>(hb.block _ (Array.getElem?_eq_some_iff.1 h).1).trans h
 refine⟨w.heap.size+1, [{ target := .collected w.heap.size,args := #[] }],W1, { target := .fn (.func gf) lb,args := #[.func (.yield (w.heap.size+1)) #[] #[]] },W1,gf, #[.func (.yield (w.heap.size+1)) #[] #[]] ++ lb,W1,?_,?_,fun _ _=>trivial,?_,(fun h=>by cases h),?_⟩
 ·show(Instr.enterLoop fn a.tmps ps assign body none).run P w=_
  rw [← hW1,hL];exact run_enterLoop_outer _ _ _ _ _
 ·simp only [resolve,hg]
  simp [go_sem]
 ·simp [invoke,go_sem,eg]
 refine(hseq W1 hb1 hs1 (w.heap.size+1)
  (fun pre V=>I pre V∧V.heap[w.heap.size+1]? = some (.loop (L .ready none))∧V.heap[w.heap.size]? = some (.deferred (some [])))
  (fun pre V => ∃c,Ix c pre V∧V.heap[w.heap.size+1]? = some (.loop (L .done (some c)))∧V.heap[w.heap.size]? = some (.deferred (some [])))
  (fun pre V h=>hM pre V h.1) (fun pre V V' h hb=>⟨hI _ _ _ h.1 hb,keepL h.2.1 hb,keepL h.2.2 hb⟩) (fun pre V V' h hb=>by
   obtain⟨c,h1,h2,h3⟩:=h
   exact⟨c,hIx _ _ _ _ h1 hb,keepL h2 hb,keepL h3 hb⟩) ?_ ⟨hI _ _ _ h0 hb1,hl1,hd1⟩).mono ?_
 ·rintro pre x V ⟨hi,hl,hd⟩ hlen hgx
  have hy:=run_yield (P:=P) (args:=encs x) hl (by rw [hL];exact hps x)
  rw [hL] at hy
  refine⟨fn,_,assign,body,hy,roundIn_of_wpIn hfn (hassign pre x V _ _ hi hgx hl hd hlen fun a' Va hA hda hla hka=>?_)⟩
  clear hy
  have hl2:=hla.trans hl
  have hd2:=hda.trans hd
  have hlt:w.heap.size+1<Va.heap.size:=(Array.getElem?_eq_some_iff.1 hl2).1
  refine⟨_,run_beginRound hl2 (by rw [hL]),?_⟩
  obtain⟨Vb,hVb⟩ : ∃Vb,Va.putObj (w.heap.size+1) (.loop { L .ready none with state := .busy })=Vb:=⟨_,rfl⟩
  have hl3:Vb.heap[w.heap.size+1]? = some (.loop { L .ready none with state := .busy }):=by rw [← hVb];exact World.putObj_heap_same hlt
  have hd3:Vb.heap[w.heap.size]? = some (.deferred (some [])):=by rw [← hVb];exact(World.putObj_heap_other j0a).trans hd2
  have hk3:Kp V Vb:=by rw [← hVb];exact hKt hka (hKp _ _ _ hl2)
  have hA3:A pre x a' Vb:=by rw [← hVb];exact hAp _ _ _ _ _ _ hl2 hA
  rw [hVb]
  refine wpIn_mono (hbody pre x a' Vb hA3 hd3 ⟨_,hl3⟩) ?_
  have fin : ∀ (jump:Option Code) (Vc:World),(Vc.heap[w.heap.size]? = Vb.heap[w.heap.size]? ∧Vc.heap[w.heap.size+1]? = Vb.heap[w.heap.size+1]?)→
   (Instr.endRound (w.heap.size+1) jump).run P Vc = .ok (.bool jump.isNone) (Vc.putObj (w.heap.size+1) (.loop (L (if jump.isNone then .ready else .done) jump)))∧Vc.heap[w.heap.size+1]? = some (.loop { L .ready none with state := .busy })∧
   (Vc.putObj (w.heap.size+1) (.loop (L (if jump.isNone then .ready else .done) jump))).heap[w.heap.size+1]? = some (.loop (L (if jump.isNone then .ready else .done) jump))∧
   (Vc.putObj (w.heap.size+1) (.loop (L (if jump.isNone then .ready else .done) jump))).heap[w.heap.size]? = some (.deferred (some [])):=fun jump Vc hs=>by
   have h4:=hs.2.trans hl3
   have h5:=hs.1.trans hd3
   have:=run_endRound (P:=P) jump h4
   rw [hL] at this
   refine⟨by rw [hL];exact this,h4,World.putObj_heap_same (Array.getElem?_eq_some_iff.1 h4).1,(World.putObj_heap_other j0a).trans h5⟩
  rintro e a3 Vc hp
  cases e with
  |normal =>
   obtain⟨hs,hk,hi3⟩:=hp
   obtain⟨f1,f2,f3,f4⟩:=fin none Vc hs
   exact⟨_,_,f1,.inl ⟨rfl,⟨hIp _ _ _ _ f2 hi3,f3,f4⟩,hKt (hKt hk3 hk) (hKp _ _ _ f2)⟩⟩
  |ret =>
   obtain⟨hs,hi3⟩:=hp
   obtain⟨f1,f2,f3,f4⟩:=fin (some .ret) Vc hs
   exact⟨_,_,f1,.inr ⟨rfl,.ret,hIxp _ _ _ _ _ f2 hi3,f3,f4⟩⟩
  |exit id =>
   obtain⟨hs,hi3⟩:=hp
   obtain⟨f1,f2,f3,f4⟩:=fin (some (.exit id)) Vc hs
   exact⟨_,_,f1,.inr ⟨rfl,.exit id,hIxp _ _ _ _ _ f2 hi3,f3,f4⟩⟩
  |goto t=>exact hp.elim
  |panic ch=>exact hp.elim
  |outgrown=>exact hp.elim
 ·rintro e W2 ⟨⟨v,rfl⟩,(⟨xs,hS,hi,hl,hd⟩ | ⟨pre,hSp,c,hi,hl,hd⟩)⟩
  ·have he:=run_endLoop (P:=P) hl (by rw [hL];simp)
   rw [hL] at he
   exact⟨none,_,he,hdone xs _ hS (hIp _ _ _ _ hl hi) ((World.putObj_heap_other j0a).trans hd)⟩
  ·have he:=run_endLoop (P:=P) hl (by rw [hL];simp)
   rw [hL] at he
   exact⟨some c,_,he,hstop c pre _ hSp (hIxp _ _ _ _ _ hl hi) ((World.putObj_heap_other j0a).trans hd)⟩
section
variable {F:Fence} {n:Nat} {P:Program} {b:Frame} {a:Act} {k:List Item} {cs:List Frame} {w:World} {Q:Exit→Act→World→Prop}
end
section
variable {F:Fence} {n:Nat} {P:Program} {ops:Array Oper} {md:Region.Mode} {Q:Exit→Act→World→Prop}
def noDefer(ops:Array Oper):Bool:=ops.all fun o=>match o.op with | .defer _=>false | _=>true
theorem noDefer_at(h:noDefer ops=true) {i:Nat} {o:Oper}(ho:ops[i]? = some o) : ∀c,o.op≠ .defer c:=fun c e=>by
 obtain⟨hi,he⟩:=Array.getElem?_eq_some_iff.1 ho
 have:=Array.all_eq_true.1 h i hi
 rw [he,e] at this
 cases this
theorem wpOpIn_round(hF:F.round=none)(hnd:noDefer ops=true) {l i:Nat} {K K':Act→World→Prop} {a:Act} {w:World}(hK : ∀a w,K a w→K' a w)(h:wpOpIn F n P ops Q i K a w):wpOpIn (F.inRound l) n P ops Q i K' a w:=by
 have h:=wpOpIn_mono hK h
 unfold wpOpIn at *
 cases ho:ops[i]? with
 |none =>
  rw [ho] at h
  exact h
 |some o =>
  rw [ho] at h
  have hn:=noDefer_at hnd ho
  dsimp only at h ⊢
  split
  ·rename_i hw
   rw [if_pos hw] at h
   obtain⟨h1,h2⟩:=h
   refine⟨h1,?_⟩
   rw [Oper.semAt_plain F _ _ hn] at h2
   rw [Oper.semAt_plain (F.inRound l) _ _ hn]
   generalize (execOp a.eval o).run P w=r at *
   cases r with
   |ok x w'=>cases x <;> exact h2
   |halt x w'=>cases x <;> exact h2
  ·rename_i hw
   rw [if_neg hw] at h
   exact h
theorem wpAnyIn_round(hF:F.round=none)(hnd:noDefer ops=true) {l:Nat} : ∀ (fuel:Nat) (listed:Array Bool) (a:Act) (w:World),wpAnyIn F n P md ops Q fuel listed a w→wpAnyIn (F.inRound l) n P md ops Q fuel listed a w
 | 0,_,_,_,h=>h
 |fuel+1,_,_,_,h=>⟨h.1,fun i hi=>wpOpIn_round hF hnd (fun a w=>wpAnyIn_round hF hnd fuel _ a w) (h.2 i hi)⟩
theorem region_round {id l:Nat} {a:Act} {w:World}(hm:P.follows .mixedOrders=true)(hnd:noDefer ops=true)(h:wpAnyIn Fence.wide n P .any ops Q ops.size (Array.replicate ops.size false) a w.drew):(Code.region id ops true).wpIn (Fence.wide.inRound l) n P Q a w :=
 wpIn_region_any hm (wpAnyIn_round rfl hnd _ _ _ _ h)
end
theorem put_other {V:World} {l:Nat} {r:Loop}(hl:V.heap[l]? = some (.loop r))(o:Obj) {k:Nat} {c:Array Value} {t:TypeId} {m:Nat × Nat}(h:V.heap[k]? = some (.cells c t m)):(V.putObj l o).heap[k]? = some (.cells c t m):=by
 rw [World.putObj_heap_other (fun e=>by rw [e,hl] at h;cases h)]
 exact h
theorem put_belowW {w V:World} {l:Nat}(o:Obj)(hw:w.heap.size≤l)(h:Below w.heap.size w V):Below w.heap.size w (V.putObj l o) :=
 ⟨h.os,h.tape,h.output,by simpa using h.size,fun k hk=>(World.putObj_heap_other j0a).trans (h.block k hk)⟩
end Go.Proofs.YtgilnmhejjpleaaGreat
