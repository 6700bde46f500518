/- A range over a function whose rounds may know of what they are handed that it lies in memory: own laws over the kit's. Nothing of the program is in here. -/
import Derived.Test.YtgilnmhejjpleaaGreatPFc
import Derived.RangeFuncBox
import Derived.RangeFuncLeaves
import Derived.RangeFuncCalls
import Derived.Shelf.Abstract
import Derived.OwnWalkIn
import Derived.TacticsInMore
import Derived.LoopNIn
import Derived.LoopIn
import Derived.IntWalk
import Derived.Scope
import Derived.Sort.QuietIn
import Derived.Test.YtgilnmhejjpleaaGreatPFi
import Derived.Deep.RegionHeld3
namespace Go.Proofs.YtgilnmhejjpleaaGreat
open Go.RowKit Go.Shelf
set_option linter.unusedSimpArgs false
set_option linter.unusedVariables false
def SeqG {α:Type}(n:Nat)(P:Program)(gf:Nat)(lb:Array Value)(encs:α→Array Value)(M:World→Prop)(G:List α→α→World→Prop)(Kp:World→World→Prop)(S Sp:List α→Prop)(N:Nat)(W:World):Prop :=
 ∀ (l:Nat) (J Jx:List α→World→Prop),(∀pre V,J pre V→M V)→(∀pre V V',J pre V→Below V.heap.size V V'→J pre V')→(∀pre V V',Jx pre V→Below V.heap.size V V'→Jx pre V')→
   (∀pre x V,J pre V→pre.length<N→G pre x V→YieldAt Fence.wide (n - 1) P l (encs x) V fun e V'=>(e = .returned (.bool true)∧J (pre ++ [x]) V'∧Kp V V')∨(e = .returned (.bool false)∧Jx (pre ++ [x]) V'))→
   J [] W→CallsIn Fence.wide n P gf (#[.func (.yield l) #[] #[]] ++ lb) W fun e W'=>(∃v,e = .returned v)∧((∃xs,S xs∧J xs W')∨(∃pre,Sp pre∧Jx pre W'))
def RoundP(D:Nat)(V:World)(Kp:World→World→Prop)(I:World→Prop)(Ix:Code→World→Prop):Exit→Act→World→Prop
 | .normal,_,V'=>(V'.heap[D]? = V.heap[D]? ∧V'.heap[D+1]? = V.heap[D+1]?)∧Kp V V'∧I V'
 | .ret,_,V'=>(V'.heap[D]? = V.heap[D]? ∧V'.heap[D+1]? = V.heap[D+1]?)∧Ix .ret V'
 | .exit id,_,V'=>(V'.heap[D]? = V.heap[D]? ∧V'.heap[D+1]? = V.heap[D+1]?)∧Ix (.exit id) V'
 | _,_,_=>False
theorem rangeOwn {α:Type} {P:Program} {n:Nat} {g:Operand} {ps:Array Tmp} {assign body:Code} {Q:Exit→Act→World→Prop} {a:Act} {w:World} {gf:Nat} {lb:Array Value} {encs:α→Array Value} {M:World→Prop} {G:List α→α→World→Prop} {Kp:World→World→Prop} {S Sp:List α→Prop} {N:Nat}
 (hg:a.eval g = .func (.func gf) #[] lb) (eg : ∀args w,(callFunc gf args).run P w = .ok (.enter gf args) w) (hps : ∀x,(encs x).size=ps.size)
 (hseq : ∀W1,Below w.heap.size w W1→W1.heap.size=w.heap.size+2→SeqG (n - 1) P gf lb encs M G Kp S Sp N W1)
 (I:List α→World→Prop) (Ix:Code→List α→World→Prop) (A:List α→α→Act→World→Prop)
 (hM : ∀pre V,I pre V→M V) (hI : ∀pre V V',I pre V→Below V.heap.size V V'→I pre V') (hIx : ∀c pre V V',Ix c pre V→Below V.heap.size V V'→Ix c pre V')
 (hIp : ∀pre V r o,V.heap[w.heap.size+1]? = some (.loop r)→I pre V→I pre (V.putObj (w.heap.size+1) o)) (hIxp : ∀c pre V r o,V.heap[w.heap.size+1]? = some (.loop r)→Ix c pre V→Ix c pre (V.putObj (w.heap.size+1) o)) (hAp : ∀pre x a' V r o,V.heap[w.heap.size+1]? = some (.loop r)→A pre x a' V→A pre x a' (V.putObj (w.heap.size+1) o))
 (hKt : ∀ {X Y Z:World},Kp X Y→Kp Y Z→Kp X Z) (hKp : ∀V r o,V.heap[w.heap.size+1]? = some (.loop r)→Kp V (V.putObj (w.heap.size+1) o)) (h0:I [] w)
 (hassign : ∀pre x V r (K:Act→World→Prop),I pre V→G pre x V→V.heap[w.heap.size+1]? = some (.loop r)→V.heap[w.heap.size]? = some (.deferred (some []))→pre.length<N→
  (∀a' V',A pre x a' V'→V'.heap[w.heap.size]? = V.heap[w.heap.size]? →V'.heap[w.heap.size+1]? = V.heap[w.heap.size+1]? →Kp V V'→K a' V')→
  assign.wpIn (Fence.wide.inRound (w.heap.size+1)) (n - 1 - 1) P (Exit.then K (fun _ _ _=>False)) { tmps:=(ps.zip (encs x)).foldl (fun t (p,v)=>t.setIfInBounds p v) a.tmps,defers := [] } V)
 (hbody : ∀pre x a' V,A pre x a' V→V.heap[w.heap.size]? = some (.deferred (some []))→(∃r,V.heap[w.heap.size+1]? = some (.loop r))→body.wpIn (Fence.wide.inRound (w.heap.size+1)) (n - 1 - 1) P (RoundP w.heap.size V Kp (I (pre ++ [x])) (fun c=>Ix c (pre ++ [x]))) a' V)
 (hdone : ∀xs W,S xs→I xs W→W.heap[w.heap.size]? = some (.deferred (some []))→Q .normal { a with defers := { target := .collected w.heap.size,args := #[] } :: a.defers } W)
 (hstop : ∀c pre W,Sp pre→Ix c pre W→W.heap[w.heap.size]? = some (.deferred (some []))→c.wpIn Fence.wide n P Q { a with defers := { target := .collected w.heap.size,args := #[] } :: a.defers } W) :
 (Code.rangeFunc g ps assign body).wpIn Fence.wide n P Q a w:=by
 refine wpIn_rangeFunc fun fn hfn=>?_
 obtain⟨L,hL⟩ : ∃L:LoopState→Option Code→Loop,L=fun st pe => { state:=st,pending:=pe,fn,tmps:=a.tmps,params:=ps,assign,body,defers:=w.heap.size } := ⟨_,rfl⟩
 obtain⟨W1,hW1⟩ : ∃W1,(w.alloc (.deferred (some []))).alloc (.loop (L .ready none))=W1:=⟨_,rfl⟩
 have hb1:Below w.heap.size w W1:=by rw [← hW1];exact((Below.refl _ w).alloc (Nat.le_refl _) _).alloc jupy _
 have hs1:W1.heap.size=w.heap.size+2:=by rw [← hW1];simp
 have hl1:W1.heap[w.heap.size+1]? = some (.loop (L .ready none)):=by
  rw [← hW1]
  have:=World.alloc_heap_new (w.alloc (.deferred (some []))) (.loop (L .ready none))
  rwa [World.size_alloc] at this
 have hd1:W1.heap[w.heap.size]? = some (.deferred (some [])):=by rw [← hW1];exact(Below.heap_alloc _ _ _ jupy).trans (World.alloc_heap_new w _)
 have keepL : ∀ {V V':World} {k:Nat} {o:Obj},V.heap[k]? = some o→Below V.heap.size V V'→V'.heap[k]? = some o:=fun h hb=>(hb.block _ (Array.getElem?_eq_some_iff.1 h).1).trans h
 refine⟨w.heap.size+1, [{ target := .collected w.heap.size,args := #[] }],W1, { target := .fn (.func gf) lb,args := #[.func (.yield (w.heap.size+1)) #[] #[]] },W1,gf, #[.func (.yield (w.heap.size+1)) #[] #[]] ++ lb,W1,?_,?_,fun _ _=>trivial,?_,(fun h=>by cases h),?_⟩
 ·show(Instr.enterLoop fn a.tmps ps assign body none).run P w=_
  rw [← hW1,hL];exact run_enterLoop_outer _ _ _ _ _
 ·simp only [resolve,hg]
  simp [go_sem]
 ·simp [invoke,go_sem,eg]
 refine(hseq W1 hb1 hs1 (w.heap.size+1)
  (fun pre V=>I pre V∧V.heap[w.heap.size+1]? = some (.loop (L .ready none))∧V.heap[w.heap.size]? = some (.deferred (some [])))
  (fun pre V => ∃c,Ix c pre V∧V.heap[w.heap.size+1]? = some (.loop (L .done (some c)))∧V.heap[w.heap.size]? = some (.deferred (some [])))
  (fun pre V h=>hM pre V h.1) (fun pre V V' h hb=>⟨hI _ _ _ h.1 hb,keepL h.2.1 hb,keepL h.2.2 hb⟩) (fun pre V V' h hb=>by
   obtain⟨c,h1,h2,h3⟩:=h
   exact⟨c,hIx _ _ _ _ h1 hb,keepL h2 hb,keepL h3 hb⟩) ?_ ⟨hI _ _ _ h0 hb1,hl1,hd1⟩).mono ?_
 ·rintro pre x V ⟨hi,hl,hd⟩ hlen hgx
  have hy:=run_yield (P:=P) (args:=encs x) hl (by rw [hL];exact hps x)
  rw [hL] at hy
  refine⟨fn,_,assign,body,hy,roundIn_of_wpIn hfn (hassign pre x V _ _ hi hgx hl hd hlen fun a' Va hA hda hla hka=>?_)⟩
  clear hy
  have hl2:=hla.trans hl
  have hd2:=hda.trans hd
  have hlt:w.heap.size+1<Va.heap.size:=(Array.getElem?_eq_some_iff.1 hl2).1
  refine⟨_,run_beginRound hl2 (by rw [hL]),?_⟩
  obtain⟨Vb,hVb⟩ : ∃Vb,Va.putObj (w.heap.size+1) (.loop { L .ready none with state := .busy })=Vb:=⟨_,rfl⟩
  have hl3:Vb.heap[w.heap.size+1]? = some (.loop { L .ready none with state := .busy }):=by rw [← hVb];exact World.putObj_heap_same hlt
  have hd3:Vb.heap[w.heap.size]? = some (.deferred (some [])):=by rw [← hVb];exact(World.putObj_heap_other j0i3).trans hd2
  have hk3:Kp V Vb:=by rw [← hVb];exact hKt hka (hKp _ _ _ hl2)
  have hA3:A pre x a' Vb:=by rw [← hVb];exact hAp _ _ _ _ _ _ hl2 hA
  rw [hVb]
  refine wpIn_mono (hbody pre x a' Vb hA3 hd3 ⟨_,hl3⟩) ?_
  have fin : ∀ (jump:Option Code) (Vc:World),(Vc.heap[w.heap.size]? = Vb.heap[w.heap.size]? ∧Vc.heap[w.heap.size+1]? = Vb.heap[w.heap.size+1]?)→
   (Instr.endRound (w.heap.size+1) jump).run P Vc = .ok (.bool jump.isNone) (Vc.putObj (w.heap.size+1) (.loop (L (if jump.isNone then .ready else .done) jump)))∧Vc.heap[w.heap.size+1]? = some (.loop { L .ready none with state := .busy })∧
   (Vc.putObj (w.heap.size+1) (.loop (L (if jump.isNone then .ready else .done) jump))).heap[w.heap.size+1]? = some (.loop (L (if jump.isNone then .ready else .done) jump))∧
   (Vc.putObj (w.heap.size+1) (.loop (L (if jump.isNone then .ready else .done) jump))).heap[w.heap.size]? = some (.deferred (some [])):=fun jump Vc hs=>by
   have h4:=hs.2.trans hl3
   have h5:=hs.1.trans hd3
   have:=run_endRound (P:=P) jump h4
   rw [hL] at this
   refine⟨by rw [hL];exact this,h4,World.putObj_heap_same (Array.getElem?_eq_some_iff.1 h4).1,(World.putObj_heap_other j0i3).trans h5⟩
  rintro e a3 Vc hp
  cases e with
  |normal =>
   obtain⟨hs,hk,hi3⟩:=hp
   obtain⟨f1,f2,f3,f4⟩:=fin none Vc hs
   exact⟨_,_,f1,.inl ⟨rfl,⟨hIp _ _ _ _ f2 hi3,f3,f4⟩,hKt (hKt hk3 hk) (hKp _ _ _ f2)⟩⟩
  |ret =>
   obtain⟨hs,hi3⟩:=hp
   obtain⟨f1,f2,f3,f4⟩:=fin (some .ret) Vc hs
   exact⟨_,_,f1,.inr ⟨rfl,.ret,hIxp _ _ _ _ _ f2 hi3,f3,f4⟩⟩
  |exit id =>
   obtain⟨hs,hi3⟩:=hp
   obtain⟨f1,f2,f3,f4⟩:=fin (some (.exit id)) Vc hs
   exact⟨_,_,f1,.inr ⟨rfl,.exit id,hIxp _ _ _ _ _ f2 hi3,f3,f4⟩⟩
  |goto t=>exact hp.elim
  |panic ch=>exact hp.elim
  |outgrown=>exact hp.elim
 ·rintro e W2 ⟨⟨v,rfl⟩,(⟨xs,hS,hi,hl,hd⟩ | ⟨pre,hSp,c,hi,hl,hd⟩)⟩
  ·have he:=run_endLoop (P:=P) hl (by rw [hL];simp)
   rw [hL] at he
   exact⟨none,_,he,hdone xs _ hS (hIp _ _ _ _ hl hi) ((World.putObj_heap_other j0i3).trans hd)⟩
  ·have he:=run_endLoop (P:=P) hl (by rw [hL];simp)
   rw [hL] at he
   exact⟨some c,_,he,hstop c pre _ hSp (hIxp _ _ _ _ _ hl hi) ((World.putObj_heap_other j0i3).trans hd)⟩
section
variable {F:Fence} {n:Nat} {P:Program} {b:Frame} {a:Act} {k:List Item} {cs:List Frame} {w:World} {Q:Exit→Act→World→Prop}
end
section
variable {F:Fence} {n:Nat} {P:Program} {ops:Array Oper} {md:Region.Mode} {Q:Exit→Act→World→Prop}
def noDefer(ops:Array Oper):Bool:=ops.all fun o=>match o.op with | .defer _=>false | _=>true
theorem noDefer_at(h:noDefer ops=true) {i:Nat} {o:Oper}(ho:ops[i]? = some o) : ∀c,o.op≠ .defer c:=fun c e=>by
 obtain⟨hi,he⟩:=Array.getElem?_eq_some_iff.1 ho
 have:=Array.all_eq_true.1 h i hi
 rw [he,e] at this
 cases this
theorem wpOpIn_round(hF:F.round=none)(hnd:noDefer ops=true) {l i:Nat} {K K':Act→World→Prop} {a:Act} {w:World}(hK : ∀a w,K a w→K' a w)(h:wpOpIn F n P ops Q i K a w):wpOpIn (F.inRound l) n P ops Q i K' a w:=by
 have h:=wpOpIn_mono hK h
 unfold wpOpIn at *
 cases ho:ops[i]? with
 |none =>
  rw [ho] at h
  exact h
 |some o =>
  rw [ho] at h
  have hn:=noDefer_at hnd ho
  dsimp only at h ⊢
  split
  ·rename_i hw
   rw [if_pos hw] at h
   obtain⟨h1,h2⟩:=h
   refine⟨h1,?_⟩
   rw [Oper.semAt_plain F _ _ hn] at h2
   rw [Oper.semAt_plain (F.inRound l) _ _ hn]
   generalize (execOp a.eval o).run P w=r at *
   cases r with
   |ok x w'=>cases x <;> exact h2
   |halt x w'=>cases x <;> exact h2
  ·rename_i hw
   rw [if_neg hw] at h
   exact h
theorem wpAnyIn_round(hF:F.round=none)(hnd:noDefer ops=true) {l:Nat} : ∀ (fuel:Nat) (listed:Array Bool) (a:Act) (w:World),wpAnyIn F n P md ops Q fuel listed a w→wpAnyIn (F.inRound l) n P md ops Q fuel listed a w
 | 0,_,_,_,h=>h
 |fuel+1,_,_,_,h=>⟨h.1,fun i hi=>wpOpIn_round hF hnd (fun a w=>wpAnyIn_round hF hnd fuel _ a w) (h.2 i hi)⟩
theorem region_round {id l:Nat} {a:Act} {w:World}(hm:P.follows .mixedOrders=true)(hnd:noDefer ops=true)(h:wpAnyIn Fence.wide n P .any ops Q ops.size (Array.replicate ops.size false) a w.drew):(Code.region id ops true).wpIn (Fence.wide.inRound l) n P Q a w :=
 wpIn_region_any hm (wpAnyIn_round rfl hnd _ _ _ _ h)
end
theorem put_other {V:World} {l:Nat} {r:Loop}(hl:V.heap[l]? = some (.loop r))(o:Obj) {k:Nat} {c:Array Value} {t:TypeId} {m:Nat × Nat}(h:V.heap[k]? = some (.cells c t m)):(V.putObj l o).heap[k]? = some (.cells c t m):=by
 rw [World.putObj_heap_other (fun e=>by rw [e,hl] at h;cases h)]
 exact h
theorem put_belowW {w V:World} {l:Nat}(o:Obj)(hw:w.heap.size≤l)(h:Below w.heap.size w V):Below w.heap.size w (V.putObj l o) :=
 ⟨h.os,h.tape,h.output,by simpa using h.size,fun k hk=>(World.putObj_heap_other j0i3).trans (h.block k hk)⟩
end Go.Proofs.YtgilnmhejjpleaaGreat
namespace Go.Proofs.YtgilnmhejjpleaaGreat
open Go.RowKit Go.Shelf
set_option linter.unusedSimpArgs false
set_option linter.unusedVariables false
attribute [local go_sem] Oper.semAt_some
abbrev encC(x:ColX):Array Value := #[.agg #[.int .i64 x.v,.int .i64 x.r,.int .i64 x.u]]
def KpI(V V':World):Prop := ∀ (g:Nat) (cs:Array Value) (m:Nat × Nat),V.heap[g]? = some (.cells cs 3 m)→V'.heap[g]? = some (.cells cs 3 m)
theorem KpI.trans {X Y Z:World}(h:KpI X Y)(h':KpI Y Z):KpI X Z:=fun g cs m e=>h' g cs m (h g cs m e)
theorem KpI.of_below {X Y:World}(h:Below X.heap.size X Y):KpI X Y:=fun g cs m e=>(h.block g (Array.getElem?_eq_some_iff.1 e).1).trans e
theorem OwnV.kpI {V V':World} {base n:Nat} {v:Value} {r:Nat→Value}(h:OwnV V base 3 v n r)(hk:KpI V V'):OwnV V' base 3 v n r:=by
 refine⟨h.1,?_⟩
 rcases h.2 with h | ⟨g,cap,cur,h1,h2,h3,h4⟩
 ·exact .inl h
 ·exact .inr ⟨g,cap,cur,h1,h2,hk _ _ _ h3,h4⟩
def LpM(w0:World)(Bs:Nat)(vp:Array Value)(V:World):Prop:=Below w0.heap.size w0 V∧Blk V Bs 26 vp
theorem varL_pre(p:LpX) {j:Nat}(h:j≤p.no):varL p j <+: colL p:=by
 have : ∀n,j≤n→varL p j <+: varL p n:=fun n=>by
  induction n with
  |zero=>intro h;obtain rfl:j=0 := j0i3;exact List.prefix_rfl
  |succ n ih =>
   intro h
   by_cases e:j=n+1
   ·rw [e];exact List.prefix_rfl
   ·exact(ih j0i3).trans ⟨_,rfl⟩
 unfold colL
 rw [List.append_assoc]
 exact(this _ h).trans ⟨_,rfl⟩
theorem slkL_pre(p:LpX) {i:Nat}(h:i≤p.m):varL p p.no ++ slkL p i <+: colL p:=by
 have : ∀n,i≤n→slkL p i <+: slkL p n:=fun n=>by
  induction n with
  |zero=>intro h;obtain rfl:i=0 := j0i3;exact List.prefix_rfl
  |succ n ih =>
   intro h
   by_cases e:i=n+1
   ·rw [e];exact List.prefix_rfl
   ·exact(ih j0i3).trans ⟨_,rfl⟩
 unfold colL
 exact((List.prefix_append_right_inj _).2 (this _ h)).trans ⟨_,rfl⟩
theorem endL_pre(p:LpX) {j:Nat}(h:j≤p.no):varL p p.no ++ slkL p p.m ++ endL p j <+: colL p:=by
 have : ∀n,j≤n→endL p j <+: endL p n:=fun n=>by
  induction n with
  |zero=>intro h;obtain rfl:j=0 := j0i3;exact List.prefix_rfl
  |succ n ih =>
   intro h
   by_cases e:j=n+1
   ·rw [e];exact List.prefix_rfl
   ·exact(ih j0i3).trans ⟨_,rfl⟩
 exact(List.prefix_append_right_inj _).2 (this _ h)
theorem pre_lt {a:List ColX} {x:ColX} {b:List ColX}(h:a ++ [x] <+: b):a.length<b.length:=by
 have:=h.length_le
 simp at this
 omega
set_option maxRecDepth 100000 in
theorem pcolumns(vc vr vl vh vo:Value)(w:World) :
 Calls Tryz.prog 36 #[.agg #[vc,vr,vl,vh,vo]] w fun e w'=>e = .returned (.func (.func 68) #[] #[.pointer (some ⟨w.heap.size,0,none⟩)])∧w'=w.alloc (.cells #[vc,vr,vl,vh,vo] 26):=by
 go_enter Tryz.func36,Tryz.ntmps36
 go_wp2
 go_ret
 exact⟨rfl,rfl⟩
set_option maxRecDepth 100000 in
set_option maxHeartbeats 8000000 in
theorem cols_in(n l Bs:Nat) {k:Nat} {p:LpX} {w0:World} {Ac Ar Al Ah Ao:Option Addr} {cc cr cl ch co:Nat}(hp:LpQ k w0 (.agg #[.slice Ac p.cost.n cc,.slice Ar p.m cr,.slice Al p.lo.n cl,.slice Ah p.hi.n ch,.slice Ao p.no co]) p)(J Jx:List ColX→World→Prop)(W:World)
 (hM : ∀pre V,J pre V→LpM w0 Bs #[.slice Ac p.cost.n cc,.slice Ar p.m cr,.slice Al p.lo.n cl,.slice Ah p.hi.n ch,.slice Ao p.no co] V) (hJ : ∀pre V V',J pre V→Below V.heap.size V V'→J pre V') (hJx : ∀pre V V',Jx pre V→Below V.heap.size V V'→Jx pre V')
 (hY : ∀pre x V,J pre V→pre.length<(colL p).length→pre ++ [x] <+: colL p→YieldAt Fence.wide (n - 1) Tryz.prog l (encC x) V fun e V' =>
  (e = .returned (.bool true)∧J (pre ++ [x]) V'∧KpI V V')∨(e = .returned (.bool false)∧Jx (pre ++ [x]) V'))
 (h0:J [] W) :
 CallsIn Fence.wide n Tryz.prog 68 #[.func (.yield l) #[] #[],.pointer (some ⟨Bs,0,none⟩)] W fun e W'=>(∃v,e = .returned v)∧
  ((∃xs,xs=colL p∧J xs W')∨(∃pre,pre <+: colL p∧Jx pre W')):=by
 have HLP:=Lib.hid hp
 obtain⟨_,_,_,_,_,_,_,_,_,_,e0,-,-,-,-,-,-,g2,-,-,g5⟩:=hp.form
 clear e0
 have HY:=Lib.hid hY
 have HJ:=Lib.hid hJ
 have HM:=Lib.hid hM
 clear hp hY hJ hM hJx
 have hcnt:=fun j=>cntF_le p.op j
 have HCNT:=Lib.hid hcnt
 clear hcnt
 refine callsIn_of_wp Tryz.func68 rfl trivial ?_ rfl
 simp only [Tryz.ntmps68,List.size_toArray,List.length_cons,List.length_nil,Nat.reduceAdd,Nat.reduceSub,Array.replicate_succ,Array.replicate_zero,List.push_toArray,List.append_toArray,List.nil_append,List.cons_append]
 obtain⟨k0,k1,k2,k3,k4,kl⟩:=(HM.out _ _ h0).2.use5
 have HL1:=Lib.hid (HLP.out.below (HM.out _ _ h0).1)
 gi_wp2_with (refine⟨trivial,fun h => j40t,?_⟩;gi_at_call 69;refine(callsIn_wide.2 (pends HL1.out)).mono ?_;rintro e w1 ⟨ga,rfl,hown,hb⟩)
 have HJ1:=Lib.hid (HJ.out _ _ _ h0 hb)
 have HE1:=Lib.hid hown
 clear hown hb k0 k1 k2 k3 k4 kl HL1 h0
 gi_wp2
 gi_loopw [12] (fun v12 wr => ∃j:Nat,j≤p.no∧v12 = .int .i64 (j:Nat)∧J (varL p j) wr∧OwnV wr W.heap.size 3 (.slice (some ⟨ga,0,none⟩) p.no p.no) p.no (fun j => .int .i64 (endR p j)))
  (fun v12 _=>p.no - (intOf v12).toNat)
 case atStart=>exact⟨0,Nat.zero_le _,rfl,HJ1.out,HE1.out⟩
 case round =>
  obtain⟨j,hj,rfl,hJs,hE⟩:=hrel
  have HJs:=Lib.hid hJs
  have HE:=Lib.hid hE
  clear hJs hE HJ1 HE1
  by_cases hlt:j<p.no
  ·have hj0:(0:Int)≤(j:Int):=by omega
   have hjk:(j:Int)<(p.no:Int) := j0i3
   have hz:=OwnV.at_ HE.out hlt
   have hpx:varL p j ++ [⟨(j:Nat),endR p j,1⟩] <+: colL p:=varL_pre p (show j+1≤p.no by omega)
   have HPX:=Lib.hid hpx
   obtain⟨fn,tmps,assign,body,hy,hR⟩:=HY.out _ _ wr HJs.out (pre_lt hpx) hpx
   dsimp only [encC] at hy
   clear hpx
   generalize hzz:endR p j=z at *
   have HZ:=Lib.hid hzz
   clear hzz
   gi_wp2
   refine⟨fun h => j40t,?_⟩
   refine hR.mono ?_
   rintro e W3 (⟨rfl,hJ3,hk3⟩ | ⟨rfl,hJx3⟩)
   ·have HJ3:=Lib.hid (show J (varL p (j+1)) W3 from by rw [varL,HZ.out];exact hJ3)
    have HE3:=Lib.hid (OwnV.kpI HE.out hk3)
    clear hJ3 hk3 hR hy hz HE HJs
    gi_wp2
    go_roundw
    case rel=>exact⟨j+1,by omega,by go_num,HJ3.out,HE3.out⟩
    case measure=>simp [intOf];omega
   ·gi_wp2
    refine bodyPost_ret (results_none rfl _ _ _) rfl ?_
    exact⟨⟨_,rfl⟩,.inr ⟨_,HPX.out,hJx3⟩⟩
  ·obtain rfl:j=p.no:=by omega
   obtain⟨wo,rfl⟩ : ∃x,x=wr:=⟨_,rfl⟩
   have HJ2:=Lib.hid (show J (varL p p.no ++ slkL p 0) wo from by rw [slkL,List.append_nil];exact HJs.out)
   obtain⟨k0,k1,k2,k3,k4,kl⟩:=(HM.out _ _ HJs.out).2.use5
   clear HJs HE
   gi_wp2
   gi_loopw [27] (fun v27 wr => ∃i:Nat,i≤p.m∧v27 = .int .i64 (i:Nat)∧J (varL p p.no ++ slkL p i) wr) (fun v27 _=>p.m - (intOf v27).toNat)
   case atStart=>exact⟨0,Nat.zero_le _,rfl,HJ2.out⟩
   case round =>
    obtain⟨i,hi,rfl,hJs⟩:=hrel
    have HJs:=Lib.hid hJs
    clear hJs HJ2
    by_cases hlt:i<p.m
    ·have hi0:(0:Int)≤(i:Int):=by omega
     have hik:(i:Int)<(p.m:Int) := j0i3
     obtain⟨_,_,_,_,_,e0,_,hqr,_,_,_⟩:=HLP.out.below (HM.out _ _ HJs.out).1
     simp only [Value.agg.injEq,Array.mk.injEq,List.cons.injEq,and_true] at e0
     obtain⟨-,rfl,-⟩:=e0
     obtain⟨ad,c1,⟨xA0,xn0,xc0,xs,⟨xb,xA,xn,xc,xb',xA',xn',xc'⟩⟩,e1,_,_,⟨x0,x1,x2,x3,x4,x5,x6⟩,hRw⟩:=hqr.at_ hlt
     simp only [Value.slice.injEq] at e1
     obtain⟨rfl,_,rfl⟩:=e1
     have hxs:xs=(p.row i).s:=hRw.1
     have hxb:=hRw.2.1
     rw [← hxs] at hxb
     clear hRw hqr
     by_cases hs:xs=1
     ·have HJ3:=Lib.hid (HJ.out _ _ _ (show J (varL p p.no ++ slkL p (i+1)) wr from by rw [slkL,if_pos (hxs▸hs),List.append_nil];exact HJs.out) (below_new wr (.cells #[.slice xA0 xn0 xc0,.int .i64 xs,.bool xb,.slice xA xn xc,.bool xb',.slice xA' xn' xc'] 60)))
      subst hs
      clear HJs hxs
      gi_wp2
      refine⟨trivial,?_⟩
      gi_wp2
      refine⟨fun _ h => j40t,?_⟩
      gi_wp2
      go_roundw
      case rel=>exact⟨i+1,by omega,by go_num,HJ3.out⟩
      case measure=>simp [intOf];omega
     ·obtain⟨w2,hW⟩ : ∃W,W=wr.alloc (.cells #[.slice xA0 xn0 xc0,.int .i64 xs,.bool xb,.slice xA xn xc,.bool xb',.slice xA' xn' xc'] 60):=⟨_,rfl⟩
      have hb2:Below wr.heap.size wr w2:=hW▸below_new _ _
      have K6:=Lib.hid (show Blk w2 wr.heap.size 60 #[.slice xA0 xn0 xc0,.int .i64 xs,.bool xb,.slice xA xn xc,.bool xb',.slice xA' xn' xc'] from hW▸Blk.new _ _ rfl _ _)
      have HJw:=Lib.hid (HJ.out _ _ _ HJs.out hb2)
      have hpx:(varL p p.no ++ slkL p i) ++ [⟨-1,(i:Nat),slkU xs⟩] <+: colL p:=by
       have:=slkL_pre p (show i+1≤p.m by omega)
       rw [slkL,if_neg (hxs▸hs),← List.append_assoc,← hxs] at this
       exact this
      have HPX:=Lib.hid hpx
      have HPE:=Lib.hid (show varL p p.no ++ slkL p (i+1)=(varL p p.no ++ slkL p i) ++ [⟨-1,(i:Nat),slkU xs⟩] from by rw [slkL,if_neg (hxs▸hs),← List.append_assoc,← hxs])
      obtain⟨fn,tmps,assign,body,hy,hR⟩:=HY.out _ _ w2 HJw.out (pre_lt hpx) hpx
      dsimp only [encC] at hy
      have hxs1:((xs:Int) == 1)=false:=by rw [beq_eq_false_iff_ne];exact hs
      obtain⟨y0,y1,y2,y3,y4,y5,yl⟩:=K6.out.use6
      have HSL:Hid (∀u,Calls Tryz.prog 70 #[.int .i64 xs] u fun e w'=>e = .returned (.int .i64 (slkU xs))∧w'=u):=fun u=>pslack xs u
      clear hpx hb2 hxs HJs
      generalize hsl:slkU xs=z at *
      clear hsl
      rw [hW] at hy hR y0 y1 y2 y3 y4 y5 yl
      clear hW K6 HJw
      gi_wp2_with (refine⟨trivial,fun h => j40t,?_⟩;gi_at_call 70;refine(callsIn_wide.2 (HSL.out _)).mono ?_;rintro e w' ⟨rfl,rfl⟩)
      refine⟨fun h => j40t,?_⟩
      refine hR.mono ?_
      rintro e W3 (⟨rfl,hJ3,hk3⟩ | ⟨rfl,hJx3⟩)
      ·have HJ3:=Lib.hid (show J (varL p p.no ++ slkL p (i+1)) W3 from by rw [HPE.out];exact hJ3)
       clear hJ3 hk3 hR hy y0 y1 y2 y3 y4 y5 yl x0 x1 x2 x3 x4 x5 x6
       gi_wp2
       go_roundw
       case rel=>exact⟨i+1,by omega,by go_num,HJ3.out⟩
       case measure=>simp [intOf];omega
      ·gi_wp2
       refine bodyPost_ret (results_none rfl _ _ _) rfl ?_
       exact⟨⟨_,rfl⟩,.inr ⟨_,HPX.out,hJx3⟩⟩
    ·obtain rfl:i=p.m:=by omega
     obtain⟨wo2,rfl⟩ : ∃x,x=wr:=⟨_,rfl⟩
     obtain⟨k0,k1,k2,k3,k4,kl⟩:=(HM.out _ _ HJs.out).2.use5
     have HL2:=Lib.hid (HLP.out.below (HM.out _ _ HJs.out).1)
     gi_wp2_with (refine⟨trivial,fun h => j40t,?_⟩;gi_at_call 69;refine(callsIn_wide.2 (pends HL2.out)).mono ?_;rintro e w3 ⟨gb,rfl,hown,hb⟩)
     have HJ4:=Lib.hid (show J (varL p p.no ++ slkL p p.m ++ endL p 0) w3 from by rw [endL,List.append_nil];exact HJ.out _ _ _ HJs.out hb)
     have HE4:=Lib.hid hown
     clear hown hb k0 k1 k2 k3 k4 kl HL2 HJs
     gi_wp2
     gi_loopw [49] (fun v49 wr => ∃j:Nat,j≤p.no∧v49 = .int .i64 (j:Nat)∧J (varL p p.no ++ slkL p p.m ++ endL p j) wr∧OwnV wr wo2.heap.size 3 (.slice (some ⟨gb,0,none⟩) p.no p.no) p.no (fun j => .int .i64 (endR p j)))
      (fun v49 _=>p.no - (intOf v49).toNat)
     case atStart=>exact⟨0,Nat.zero_le _,rfl,HJ4.out,HE4.out⟩
     case round =>
      obtain⟨j,hj,rfl,hJs,hE⟩:=hrel
      have HJs:=Lib.hid hJs
      have HE:=Lib.hid hE
      clear hJs hE HJ4 HE4
      by_cases hlt:j<p.no
      ·have hj0:(0:Int)≤(j:Int):=by omega
       have hjk:(j:Int)<(p.no:Int) := j0i3
       have hz:=OwnV.at_ HE.out hlt
       cases hop:p.op j
       ·have hpx:(varL p p.no ++ slkL p p.m ++ endL p j) ++ [⟨-1,endR p j,1⟩] <+: colL p:=by
         have:=endL_pre p (show j+1≤p.no by omega)
         rw [endL,hop,← List.append_assoc] at this
         exact this
        have HPX:=Lib.hid hpx
        have HPE:=Lib.hid (show varL p p.no ++ slkL p p.m ++ endL p (j+1)=(varL p p.no ++ slkL p p.m ++ endL p j) ++ [⟨-1,endR p j,1⟩] from by rw [endL,hop,← List.append_assoc];rfl)
        obtain⟨fn,tmps,assign,body,hy,hR⟩:=HY.out _ _ wr HJs.out (pre_lt hpx) hpx
        dsimp only [encC] at hy
        have hzz:endR p j=((p.m+cntF p.op j:Nat):Int):=by unfold endR;rw [hop];rfl
        obtain⟨z,hzn⟩ : ∃z:Nat,z=p.m+cntF p.op j:=⟨_,rfl⟩
        rw [← hzn] at hzz
        rw [hzz] at hy hz
        have HZ:=Lib.hid hzz
        have hzb:z≤3000000:=by have:=HCNT.out j;omega
        clear hpx hzz hzn
        gi_wp2
        refine⟨fun h => j40t,?_⟩
        refine hR.mono ?_
        rintro e W3 (⟨rfl,hJ3,hk3⟩ | ⟨rfl,hJx3⟩)
        ·have HJ3:=Lib.hid (show J (varL p p.no ++ slkL p p.m ++ endL p (j+1)) W3 from by rw [HPE.out];exact hJ3)
         have HE3:=Lib.hid (OwnV.kpI HE.out hk3)
         clear hJ3 hk3 hR hy hz HE HJs
         gi_wp2
         go_roundw
         case rel=>exact⟨j+1,by omega,by go_num,HJ3.out,HE3.out⟩
         case measure=>simp [intOf];omega
        ·gi_wp2
         refine bodyPost_ret (results_none rfl _ _ _) rfl ?_
         exact⟨⟨_,rfl⟩,.inr ⟨_,HPX.out,hJx3⟩⟩
       ·have HJ3:=Lib.hid (show J (varL p p.no ++ slkL p p.m ++ endL p (j+1)) wr from by rw [endL,hop];simp only [if_true,List.append_nil];exact HJs.out)
        have hzz:endR p j = -1:=by unfold endR;rw [hop];rfl
        rw [hzz] at hz
        have HE3:=HE
        clear hzz HJs HE
        gi_wp2
        refine⟨fun _ h => j40t,?_⟩
        gi_wp2
        go_roundw
        case rel=>exact⟨j+1,by omega,by go_num,HJ3.out,HE3.out⟩
        case measure=>simp [intOf];omega
      ·obtain rfl:j=p.no:=by omega
       gi_wp2
       go_end0
       exact⟨⟨_,rfl⟩,.inl ⟨_,rfl,HJs.out⟩⟩
theorem cols_seq {k:Nat} {p:LpX} {w0:World} {Ac Ar Al Ah Ao:Option Addr} {cc cr cl ch co:Nat} {Bs n:Nat} {W:World}(hp:LpQ k w0 (.agg #[.slice Ac p.cost.n cc,.slice Ar p.m cr,.slice Al p.lo.n cl,.slice Ah p.hi.n ch,.slice Ao p.no co]) p) :
 SeqG n Tryz.prog 68 #[.pointer (some ⟨Bs,0,none⟩)] encC (LpM w0 Bs #[.slice Ac p.cost.n cc,.slice Ar p.m cr,.slice Al p.lo.n cl,.slice Ah p.hi.n ch,.slice Ao p.no co]) (fun pre x _=>pre ++ [x] <+: colL p) KpI (fun xs=>xs=colL p) (fun pre=>pre <+: colL p) (colL p).length W :=
 fun l J Jx hM hJ hJx hY h0=>cols_in n l Bs hp J Jx W hM hJ hJx hY h0
end Go.Proofs.YtgilnmhejjpleaaGreat
namespace Go.Proofs.YtgilnmhejjpleaaGreat
open Go.RowKit Go.Shelf
set_option linter.unusedSimpArgs false
set_option linter.unusedVariables false
section
variable {P:Program} {ops:Array Oper} {Q:Exit→Act→World→Prop} {md:Region.Mode} {S:World→Prop} {n:Nat}
theorem upon_in {o:Oper} {a:Act} {K K':Act→World→Prop}(hK : ∀a w,K a w→K' a w)(r:Result Next)(h:o.upon P a K Q r):o.uponIn Fence.wide n P a K' Q r:=by
 cases r with
 |ok x w' =>
  cases x with
  |value v=>exact hK _ _ h
  |skip=>exact hK _ _ h
  |defer d=>exact hK _ _ h
  |enter f args =>
   refine⟨fun h=>by simp [Fence.wide] at h,callsIn_wide.2 (Calls.mono h fun e w'' h=>?_)⟩
   cases e with
   |returned v=>exact hK _ _ h
   |panicked c=>exact h
   |outgrown=>exact h
  |row r args=>exact⟨fun h=>by simp [Fence.wide] at h,fun c cs _=>let⟨v,w2,h1,h2⟩:=h c cs; ⟨v,w2,hK _ _ h1,stepsIn_wide.2 h2⟩⟩
  | _=>exact h.elim
 |halt x w' =>
  cases x with
  |panic v=>exact h
  | _=>exact h.elim
theorem wpOpIn_of_wpOp(hQ : ¬LetsOut Q) {i:Nat} {K K':Act→World→Prop} {a:Act} {w:World}(hK : ∀a w,K a w→K' a w)(h:wpOp P ops Q i K a w):wpOpIn Fence.wide n P ops Q i K' a w:=by
 unfold wpOp at h
 unfold wpOpIn
 cases ho:ops[i]? with
 |none=>rw [ho] at h;exact hK _ _ h
 |some o =>
  rw [ho] at h
  dsimp only at h ⊢
  split
  ·rename_i hw
   rw [if_pos hw] at h
   rcases h with h | h
   ·refine⟨fun _ _=>trivial,?_⟩
    have:o.semAt Fence.wide.round a.eval=execOp a.eval o:=by simp [Oper.semAt,Fence.wide]
    rw [this]
    exact upon_in hK _ h
   ·exact absurd h.2 hQ
  ·rename_i hw
   rw [if_neg hw] at h
   exact⟨fun _ _=>trivial,hK _ _ h⟩
theorem wpAnyIn_of_wpAny(hQ : ¬LetsOut Q) : ∀ (fuel:Nat) (listed:Array Bool) (a:Act) (w:World),wpAny P md ops Q fuel listed a w→wpAnyIn Fence.wide n P md ops Q fuel listed a w
 | 0,_,_,_,h=>h
 |fuel+1,_,_,_,h=>⟨h.1,fun i hi=>wpOpIn_of_wpOp hQ (fun a w=>wpAnyIn_of_wpAny hQ fuel _ a w) (h.2 i hi)⟩
theorem wpAny_of_held : ∀ (fuel:Nat) (listed:Array Bool) (a:Act) (w:World),wpAnyH P md ops Q S fuel listed a w→wpAny P md ops Q fuel listed a w
 | 0,_,_,_,h=>h
 |fuel+1,_,_,_,h=>⟨h.1,fun i hi=>wpOp_mono (fun a w h=>wpAny_of_held fuel _ a w h.2) (h.2 i hi)⟩
theorem region_round_held {id l:Nat} {a:Act} {w:World}(hm:P.follows .mixedOrders=true)(hnd:noDefer ops=true)(hQ : ¬LetsOut Q)(hS:S w.drew)
 (h:S w.drew→wpAnyH P .any ops Q S ops.size (Array.replicate ops.size false) a w.drew):(Code.region id ops true).wpIn (Fence.wide.inRound l) n P Q a w :=
 region_round hm hnd (wpAnyIn_of_wpAny hQ _ _ _ _ (wpAny_of_held _ _ _ _ (h hS)))
end
section
variable {w:World} {v:Value} {base n m c:Nat} {X Y:Nat→RatD} {A:Option Addr}
theorem run_append_rats3(ty:TypeId)(hown:OwnR w base v n X)(hY:RowAt w A m Y)(hA:A=none→m=0∧c=0)(hnm:n+m≤1000000)(hbase:base≤w.heap.size) :
 ∃v' w',(Builtin.append_ #[22,22] ty #[v,.slice A m c]).run Tryz.prog w = .ok v' w'∧OwnR w' base v' (n+m) (appR X n Y)∧Fz base 36 w w'∧Grew w w' v v':=by
 obtain⟨v',w',h1,h2,h3⟩:=run_append_rats (w:=w) ty hown hY hA hnm hbase
 refine⟨v',w',h1,h2,h3,?_⟩
 obtain⟨i,hi,hz,hs',hby⟩:=info_parts rat_info
 cases A with
 |none =>
  obtain⟨rfl,rfl⟩:=hA rfl
  have hr:=run_append_owned_none (P:=Tryz.prog) (w:=w) base 22 ty 36 i 4 Tryz.underlying22 hi v n _ (OwnN.own hown)
  rw [h1] at hr
  injection hr with e1 e2
  subst e1
  subst e2
  exact⟨⟨rfl,rfl,rfl,Nat.le_refl _,fun _ _ _=>rfl⟩,.inl rfl⟩
 |some ad =>
  obtain⟨v2,w2,hr,_,hg,_,hb⟩:=run_append_own_at (P:=Tryz.prog) w base 22 ty 36 i ratZ.val 4 64 Tryz.underlying22 hi hz hs' hby rfl j0i3 v n _ (OwnN.own hown) ad m c (rowR Y m) (rowR_len Y m) hY.cells_ (fun u hu=>by obtain⟨i,h⟩:=rowR_mem hu;exact ratL_one _ u h) j22u j0i3 hbase
  rw [h1] at hr
  injection hr with e1 e2
  subst e1
  subst e2
  exact⟨hg,hb⟩
variable {P:Program} {ops:Array Oper} {o:Oper} {a:Act} {K:Act→World→Prop} {Q:Exit→Act→World→Prop} {E:Prop}
theorem step_append_rats3(hP:P=Tryz.prog)(hgd:o.guard=none)(s x:Operand)(ho:o.op = .call { callee := .builtin .append,args := #[s,x],argTypes := #[22,22] })
 (hs:a.eval s=v) (hown:OwnR w base v n X) (hx:a.eval x = .slice A m c) (hY:RowAt w A m Y) (hA:A=none→m=0∧c=0) (hnm:n+m≤1000000) (hbase:base≤w.heap.size)
 (h : ∀v' w',OwnR w' base v' (n+m) (appR X n Y)→Fz base 36 w w'→Grew w w' v v'→K (a.put o.dst v') w'):if Region.wanted o (yielded ops a.tmps)=true then Oper.wp P o a w K Q else E:=by
 subst hP
 have hw:Region.wanted o (yielded ops a.tmps)=true:=by simp [Region.wanted,hgd]
 rw [if_pos hw]
 obtain⟨v',w',h1,h2,h3,h4⟩:=run_append_rats3 (w:=w) o.type hown hY hA hnm hbase
 exact Go.Lib.wp_append_run w s x _ _ ho v _ hs hx v' w' h1 (h v' w' h2 h3 h4)
end
end Go.Proofs.YtgilnmhejjpleaaGreat
