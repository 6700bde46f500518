/- A range over a function whose rounds may know of what they are handed that it lies in memory: own laws over the kit's. Nothing of the program is in here. -/
import Derived.Test.YtmcbmbcfgefocaaPKl
import Derived.Test.YtmcbmbcfgefocaaPDa
import Derived.Scope
import Derived.Sort.QuietIn
import Derived.OwnWalkIn
import Derived.Test.YtmcbmbcfgefocaaPNb
namespace Go.Proofs.Ytmcbmbcfgefocaa
open Go.RowKit Go.Shelf
set_option linter.unusedSimpArgs false
set_option linter.unusedVariables false

/-- What an iterator does: each round is handed an x of which G is known; whatever M is of the memory, it lies there. -/
def SeqG {α : Type} (n : Nat) (P : Program) (gf : Nat) (lb : Array Value) (encs : α → Array Value) (M : World → Prop) (G : List α → α → World → Prop) (Kp : World → World → Prop) (S Sp : List α → Prop) (N : Nat) (W : World) : Prop :=
  ∀ (l : Nat) (J Jx : List α → World → Prop), (∀ pre V, J pre V → M V) → (∀ pre V V', J pre V → Below V.heap.size V V' → J pre V') → (∀ pre V V', Jx pre V → Below V.heap.size V V' → Jx pre V') →
    (∀ pre x V, J pre V → pre.length < N → G pre x V → YieldAt Fence.wide (n - 1) P l (encs x) V fun e V' => (e = .returned (.bool true) ∧ J (pre ++ [x]) V' ∧ Kp V V') ∨ (e = .returned (.bool false) ∧ Jx (pre ++ [x]) V')) →
    J [] W → CallsIn Fence.wide n P gf (#[.func (.yield l) #[] #[]] ++ lb) W fun e W' => (∃ v, e = .returned v) ∧ ((∃ xs, S xs ∧ J xs W') ∨ (∃ pre, Sp pre ∧ Jx pre W'))
/-- How a round's body may end. -/
def RoundP (D : Nat) (V : World) (Kp : World → World → Prop) (I : World → Prop) (Ix : Code → World → Prop) : Exit → Act → World → Prop
  | .normal, _, V' => (V'.heap[D]? = V.heap[D]? ∧ V'.heap[D + 1]? = V.heap[D + 1]?) ∧ Kp V V' ∧ I V'
  | .ret, _, V' => (V'.heap[D]? = V.heap[D]? ∧ V'.heap[D + 1]? = V.heap[D + 1]?) ∧ Ix .ret V'
  | .exit id, _, V' => (V'.heap[D]? = V.heap[D]? ∧ V'.heap[D + 1]? = V.heap[D + 1]?) ∧ Ix (.exit id) V'
  | _, _, _ => False
theorem rangeOwn {α : Type} {P : Program} {n : Nat} {g : Operand} {ps : Array Tmp} {assign body : Code} {Q : Exit → Act → World → Prop} {a : Act} {w : World} {gf : Nat} {lb : Array Value} {encs : α → Array Value} {M : World → Prop} {G : List α → α → World → Prop} {Kp : World → World → Prop} {S Sp : List α → Prop} {N : Nat}
    (hg : a.eval g = .func (.func gf) #[] lb) (eg : ∀ args w, (callFunc gf args).run P w = .ok (.enter gf args) w) (hps : ∀ x, (encs x).size = ps.size)
    (hseq : ∀ W1, Below w.heap.size w W1 → W1.heap.size = w.heap.size + 2 → SeqG (n - 1) P gf lb encs M G Kp S Sp N W1)
    (I : List α → World → Prop) (Ix : Code → List α → World → Prop) (A : List α → α → Act → World → Prop)
    (hM : ∀ pre V, I pre V → M V) (hI : ∀ pre V V', I pre V → Below V.heap.size V V' → I pre V') (hIx : ∀ c pre V V', Ix c pre V → Below V.heap.size V V' → Ix c pre V')
    (hIp : ∀ pre V r o, V.heap[w.heap.size + 1]? = some (.loop r) → I pre V → I pre (V.putObj (w.heap.size + 1) o)) (hIxp : ∀ c pre V r o, V.heap[w.heap.size + 1]? = some (.loop r) → Ix c pre V → Ix c pre (V.putObj (w.heap.size + 1) o)) (hAp : ∀ pre x a' V r o, V.heap[w.heap.size + 1]? = some (.loop r) → A pre x a' V → A pre x a' (V.putObj (w.heap.size + 1) o))
    (hKt : ∀ {X Y Z : World}, Kp X Y → Kp Y Z → Kp X Z) (hKp : ∀ V r o, V.heap[w.heap.size + 1]? = some (.loop r) → Kp V (V.putObj (w.heap.size + 1) o)) (h0 : I [] w)
    (hassign : ∀ pre x V r (K : Act → World → Prop), I pre V → G pre x V → V.heap[w.heap.size + 1]? = some (.loop r) → V.heap[w.heap.size]? = some (.deferred (some [])) → pre.length < N →
      (∀ a' V', A pre x a' V' → V'.heap[w.heap.size]? = V.heap[w.heap.size]? → V'.heap[w.heap.size + 1]? = V.heap[w.heap.size + 1]? → Kp V V' → K a' V') →
      assign.wpIn (Fence.wide.inRound (w.heap.size + 1)) (n - 1 - 1) P (Exit.then K (fun _ _ _ => False)) { tmps := (ps.zip (encs x)).foldl (fun t (p, v) => t.setIfInBounds p v) a.tmps, defers := [] } V)
    (hbody : ∀ pre x a' V, A pre x a' V → V.heap[w.heap.size]? = some (.deferred (some [])) → (∃ r, V.heap[w.heap.size + 1]? = some (.loop r)) → body.wpIn (Fence.wide.inRound (w.heap.size + 1)) (n - 1 - 1) P (RoundP w.heap.size V Kp (I (pre ++ [x])) (fun c => Ix c (pre ++ [x]))) a' V)
    (hdone : ∀ xs W, S xs → I xs W → W.heap[w.heap.size]? = some (.deferred (some [])) → Q .normal { a with defers := { target := .collected w.heap.size, args := #[] } :: a.defers } W)
    (hstop : ∀ c pre W, Sp pre → Ix c pre W → W.heap[w.heap.size]? = some (.deferred (some [])) → c.wpIn Fence.wide n P Q { a with defers := { target := .collected w.heap.size, args := #[] } :: a.defers } W) :
    (Code.rangeFunc g ps assign body).wpIn Fence.wide n P Q a w := by
  refine wpIn_rangeFunc fun fn hfn => ?_
  obtain ⟨L, hL⟩ : ∃ L : LoopState → Option Code → Loop, L = fun st pe => { state := st, pending := pe, fn, tmps := a.tmps, params := ps, assign, body, defers := w.heap.size } := ⟨_, rfl⟩
  obtain ⟨W1, hW1⟩ : ∃ W1, (w.alloc (.deferred (some []))).alloc (.loop (L .ready none)) = W1 := ⟨_, rfl⟩
  have hb1 : Below w.heap.size w W1 := by rw [← hW1]; exact ((Below.refl _ w).alloc (Nat.le_refl _) _).alloc (by simp) _
  have hs1 : W1.heap.size = w.heap.size + 2 := by rw [← hW1]; simp
  have hl1 : W1.heap[w.heap.size + 1]? = some (.loop (L .ready none)) := by
    rw [← hW1]
    have := World.alloc_heap_new (w.alloc (.deferred (some []))) (.loop (L .ready none))
    rwa [World.size_alloc] at this
  have hd1 : W1.heap[w.heap.size]? = some (.deferred (some [])) := by rw [← hW1]; exact (Below.heap_alloc _ _ _ (by simp)).trans (World.alloc_heap_new w _)
  have keepL : ∀ {V V' : World} {k : Nat} {o : Obj}, V.heap[k]? = some o → Below V.heap.size V V' → V'.heap[k]? = some o := fun h hb => (hb.block _ (Array.getElem?_eq_some_iff.1 h).1).trans h
  refine ⟨w.heap.size + 1, [{ target := .collected w.heap.size, args := #[] }], W1, { target := .fn (.func gf) lb, args := #[.func (.yield (w.heap.size + 1)) #[] #[]] }, W1, gf, #[.func (.yield (w.heap.size + 1)) #[] #[]] ++ lb, W1, ?_, ?_, fun _ _ => trivial, ?_, (fun h => by cases h), ?_⟩
  · show (Instr.enterLoop fn a.tmps ps assign body none).run P w = _
    rw [← hW1, hL]; exact run_enterLoop_outer _ _ _ _ _
  · simp only [resolve, hg]
    simp [go_sem]
  · simp [invoke, go_sem, eg]
  refine (hseq W1 hb1 hs1 (w.heap.size + 1)
    (fun pre V => I pre V ∧ V.heap[w.heap.size + 1]? = some (.loop (L .ready none)) ∧ V.heap[w.heap.size]? = some (.deferred (some [])))
    (fun pre V => ∃ c, Ix c pre V ∧ V.heap[w.heap.size + 1]? = some (.loop (L .done (some c))) ∧ V.heap[w.heap.size]? = some (.deferred (some [])))
    (fun pre V h => hM pre V h.1) (fun pre V V' h hb => ⟨hI _ _ _ h.1 hb, keepL h.2.1 hb, keepL h.2.2 hb⟩) (fun pre V V' h hb => by
      obtain ⟨c, h1, h2, h3⟩ := h
      exact ⟨c, hIx _ _ _ _ h1 hb, keepL h2 hb, keepL h3 hb⟩) ?_ ⟨hI _ _ _ h0 hb1, hl1, hd1⟩).mono ?_
  · rintro pre x V ⟨hi, hl, hd⟩ hlen hgx
    have hy := run_yield (P := P) (args := encs x) hl (by rw [hL]; exact hps x)
    rw [hL] at hy
    refine ⟨fn, _, assign, body, hy, roundIn_of_wpIn hfn (hassign pre x V _ _ hi hgx hl hd hlen fun a' Va hA hda hla hka => ?_)⟩
    clear hy
    have hl2 := hla.trans hl
    have hd2 := hda.trans hd
    have hlt : w.heap.size + 1 < Va.heap.size := (Array.getElem?_eq_some_iff.1 hl2).1
    refine ⟨_, run_beginRound hl2 (by rw [hL]), ?_⟩
    obtain ⟨Vb, hVb⟩ : ∃ Vb, Va.putObj (w.heap.size + 1) (.loop { L .ready none with state := .busy }) = Vb := ⟨_, rfl⟩
    have hl3 : Vb.heap[w.heap.size + 1]? = some (.loop { L .ready none with state := .busy }) := by rw [← hVb]; exact World.putObj_heap_same hlt
    have hd3 : Vb.heap[w.heap.size]? = some (.deferred (some [])) := by rw [← hVb]; exact (World.putObj_heap_other (by omega)).trans hd2
    have hk3 : Kp V Vb := by rw [← hVb]; exact hKt hka (hKp _ _ _ hl2)
    have hA3 : A pre x a' Vb := by rw [← hVb]; exact hAp _ _ _ _ _ _ hl2 hA
    rw [hVb]
    refine wpIn_mono (hbody pre x a' Vb hA3 hd3 ⟨_, hl3⟩) ?_
    have fin : ∀ (jump : Option Code) (Vc : World), (Vc.heap[w.heap.size]? = Vb.heap[w.heap.size]? ∧ Vc.heap[w.heap.size + 1]? = Vb.heap[w.heap.size + 1]?) →
        (Instr.endRound (w.heap.size + 1) jump).run P Vc = .ok (.bool jump.isNone) (Vc.putObj (w.heap.size + 1) (.loop (L (if jump.isNone then .ready else .done) jump))) ∧ Vc.heap[w.heap.size + 1]? = some (.loop { L .ready none with state := .busy }) ∧
        (Vc.putObj (w.heap.size + 1) (.loop (L (if jump.isNone then .ready else .done) jump))).heap[w.heap.size + 1]? = some (.loop (L (if jump.isNone then .ready else .done) jump)) ∧
        (Vc.putObj (w.heap.size + 1) (.loop (L (if jump.isNone then .ready else .done) jump))).heap[w.heap.size]? = some (.deferred (some [])) := fun jump Vc hs => by
      have h4 := hs.2.trans hl3
      have h5 := hs.1.trans hd3
      have := run_endRound (P := P) jump h4
      rw [hL] at this
      refine ⟨by rw [hL]; exact this, h4, World.putObj_heap_same (Array.getElem?_eq_some_iff.1 h4).1, (World.putObj_heap_other (by omega)).trans h5⟩
    rintro e a3 Vc hp
    cases e with
    | normal =>
      obtain ⟨hs, hk, hi3⟩ := hp
      obtain ⟨f1, f2, f3, f4⟩ := fin none Vc hs
      exact ⟨_, _, f1, .inl ⟨rfl, ⟨hIp _ _ _ _ f2 hi3, f3, f4⟩, hKt (hKt hk3 hk) (hKp _ _ _ f2)⟩⟩
    | ret =>
      obtain ⟨hs, hi3⟩ := hp
      obtain ⟨f1, f2, f3, f4⟩ := fin (some .ret) Vc hs
      exact ⟨_, _, f1, .inr ⟨rfl, .ret, hIxp _ _ _ _ _ f2 hi3, f3, f4⟩⟩
    | exit id =>
      obtain ⟨hs, hi3⟩ := hp
      obtain ⟨f1, f2, f3, f4⟩ := fin (some (.exit id)) Vc hs
      exact ⟨_, _, f1, .inr ⟨rfl, .exit id, hIxp _ _ _ _ _ f2 hi3, f3, f4⟩⟩
    | goto t => exact hp.elim
    | panic ch => exact hp.elim
    | outgrown => exact hp.elim
  · rintro e W2 ⟨⟨v, rfl⟩, (⟨xs, hS, hi, hl, hd⟩ | ⟨pre, hSp, c, hi, hl, hd⟩)⟩
    · have he := run_endLoop (P := P) hl (by rw [hL]; simp)
      rw [hL] at he
      exact ⟨none, _, he, hdone xs _ hS (hIp _ _ _ _ hl hi) ((World.putObj_heap_other (by omega)).trans hd)⟩
    · have he := run_endLoop (P := P) hl (by rw [hL]; simp)
      rw [hL] at he
      exact ⟨some c, _, he, hstop c pre _ hSp (hIxp _ _ _ _ _ hl hi) ((World.putObj_heap_other (by omega)).trans hd)⟩
section
variable {F : Fence} {n : Nat} {P : Program} {b : Frame} {a : Act} {k : List Item} {cs : List Frame} {w : World} {Q : Exit → Act → World → Prop}
theorem stepR_scope' {c : Code} : step P (lone (b.atR a (.code (.scope c) :: k)) cs w) = .next (lone (b.atR a (.code c :: .inScope c :: k)) cs w) := step_lone_go (by simp [stepG, stepG.exec, Frame.atR])
theorem stepR_inScope' {c : Code} : step P (lone (b.atR a (.inScope c :: k)) cs w) = .next (lone (b.atR a k) cs w) := step_lone_go (by simp [stepG, stepG.exec, Frame.atR])
/-- A scope out of which nothing jumps to a label. -/
theorem wpIn_scope' {c : Code} (h : c.wpIn F n P (Exit.noGoto Q) a w) : (Code.scope c).wpIn F n P Q a w := by
  intro b k cs hro hb hr
  have h0 : (lone (b.atR a (.code (.scope c) :: k)) cs w).fenced P F := fenced_calm hb hr rfl
  obtain ⟨e, a₁, w₁, hq, harr⟩ := h b (.inScope c :: k) cs hro hb hr
  cases e with
  | normal => exact ⟨.normal, a₁, w₁, hq, .head h0 stepR_scope' (StepsIn.trans harr (.one (fenced_calm hb hr rfl) stepR_inScope'))⟩
  | exit id =>
    have hx : exitTo id (.inScope c :: k) = exitTo id k := by simp [exitTo]
    exact ⟨.exit id, a₁, w₁, hq, fun k' hk => .head h0 stepR_scope' (harr.1 k' (by rw [hx]; exact hk)), fun hr' hk => let ⟨k₁, h1, h2⟩ := harr.2 hr' (by rw [hx]; exact hk); ⟨k₁, h1, .head h0 stepR_scope' h2⟩⟩
  | goto l => exact hq.elim
  | ret => exact ⟨_, a₁, w₁, hq, .of_steps (.one h0 stepR_scope') harr⟩
  | panic ch => exact ⟨_, a₁, w₁, hq, .of_steps (.one h0 stepR_scope') harr⟩
  | outgrown => exact ⟨_, a₁, w₁, hq, .of_steps (.one h0 stepR_scope') harr⟩
def markD (D : Nat) : Deferred := { target := .collected D, args := #[] }
/-- The marks of loops that are over: nothing is left to do. -/
theorem marks_leave {fn : Func} {tmps : Array Value} {R : Ending → World → Prop} : ∀ (ds : List Nat) (w : World), (∀ D ∈ ds, w.heap[D]? = some (.deferred (some []))) → ds.Nodup →
    (∀ w', Only (fun k => k ∈ ds) w w' → w'.heap.size = w.heap.size → LeavesInM F n P fn tmps R [] .returning w') → LeavesInM F n P fn tmps R (ds.map markD) .returning w
  | [], w, _, _, h => h w ⟨rfl, rfl, rfl, Nat.le_refl _, fun _ _ _ => rfl⟩ rfl
  | D :: ds, w, hd, hn, h => by
    have hD := hd D (by simp)
    have hnd := List.nodup_cons.1 hn
    have ho : Only (fun k => k ∈ D :: ds) w (w.putObj D (.deferred none)) := ⟨rfl, rfl, rfl, by simp, fun k hk hne => World.putObj_heap_other (fun e => hne (by rw [e]; simp))⟩
    refine ⟨by simp, .inl ⟨D, _, rfl, run_takeDeferred hD, marks_leave ds _ (fun E hE => ?_) hnd.2 fun w' h1 h2 => h w' (ho.trans (h1.mono fun k hk => by simp [hk])) (h2.trans (by simp))⟩⟩
    rw [World.putObj_heap_other (fun e => hnd.1 (by rw [← e]; exact hE))]
    exact hd E (by simp [hE])
end
section
variable {F : Fence} {n : Nat} {P : Program} {ops : Array Oper} {md : Region.Mode} {Q : Exit → Act → World → Prop}
def noDefer (ops : Array Oper) : Bool := ops.all fun o => match o.op with | .defer _ => false | _ => true
theorem noDefer_at (h : noDefer ops = true) {i : Nat} {o : Oper} (ho : ops[i]? = some o) : ∀ c, o.op ≠ .defer c := fun c e => by
  obtain ⟨hi, he⟩ := Array.getElem?_eq_some_iff.1 ho
  have := Array.all_eq_true.1 h i hi
  rw [he, e] at this
  cases this
theorem wpOpIn_round (hF : F.round = none) (hnd : noDefer ops = true) {l i : Nat} {K K' : Act → World → Prop} {a : Act} {w : World} (hK : ∀ a w, K a w → K' a w) (h : wpOpIn F n P ops Q i K a w) : wpOpIn (F.inRound l) n P ops Q i K' a w := by
  have h := wpOpIn_mono hK h
  unfold wpOpIn at *
  cases ho : ops[i]? with
  | none =>
    rw [ho] at h
    exact h
  | some o =>
    rw [ho] at h
    have hn := noDefer_at hnd ho
    dsimp only at h ⊢
    split
    · rename_i hw
      rw [if_pos hw] at h
      obtain ⟨h1, h2⟩ := h
      refine ⟨h1, ?_⟩
      rw [Oper.semAt_plain F _ _ hn] at h2
      rw [Oper.semAt_plain (F.inRound l) _ _ hn]
      generalize (execOp a.eval o).run P w = r at *
      cases r with
      | ok x w' => cases x <;> exact h2
      | halt x w' => cases x <;> exact h2
    · rename_i hw
      rw [if_neg hw] at h
      exact h
theorem wpAnyIn_round (hF : F.round = none) (hnd : noDefer ops = true) {l : Nat} : ∀ (fuel : Nat) (listed : Array Bool) (a : Act) (w : World), wpAnyIn F n P md ops Q fuel listed a w → wpAnyIn (F.inRound l) n P md ops Q fuel listed a w
  | 0, _, _, _, h => h
  | fuel + 1, _, _, _, h => ⟨h.1, fun i hi => wpOpIn_round hF hnd (fun a w => wpAnyIn_round hF hnd fuel _ a w) (h.2 i hi)⟩
/-- A region that draws its order, in a round. -/
theorem region_round {id l : Nat} {a : Act} {w : World} (hm : P.follows .mixedOrders = true) (hnd : noDefer ops = true) (h : wpAnyIn Fence.wide n P .any ops Q ops.size (Array.replicate ops.size false) a w.drew) : (Code.region id ops true).wpIn (Fence.wide.inRound l) n P Q a w :=
  wpIn_region_any hm (wpAnyIn_round rfl hnd _ _ _ _ h)
/-- A region that only reads, in a round. -/
theorem region_quiet_round {id r : Nat} {a : Act} {w : World} {l : List Oper} (hm : P.follows .mixedOrders = true) (hnd : noDefer l.toArray = true) (hB : Region.lexB .any l.toArray = true)
    (h : wpQuietIn Fence.wide n P l.toArray (fun w' => ∃ k, w' = w.drewN k) (fun a' => ∀ w', (∃ k, w' = w.drewN k) → Q .normal a' w') l a) : (Code.region id l.toArray true).wpIn (Fence.wide.inRound r) n P Q a w := by
  simp only [Region.lexB, Bool.and_eq_true] at hB
  refine region_round hm hnd (wpAnyIn_of_quiet (C := fun w' => ∃ k, w' = w.drewN k) (Q := fun a' => ∀ w', (∃ k, w' = w.drewN k) → Q .normal a' w') rfl (fun _ w' hw' h => h w' hw') _ _ _ _ ⟨1, rfl⟩ ?_)
  have := wpAnyQIn_lex (F := Fence.wide) (n := n) (C := fun w' => ∃ k, w' = w.drewN k) (md := .any) hB.1 l 0 (Array.replicate l.length false) a (by simp) (by simpa using hB.2) h
  simpa using this
end
/-- A block of cells stays when a loop's record turns. -/
theorem put_other {V : World} {l : Nat} {r : Loop} (hl : V.heap[l]? = some (.loop r)) (o : Obj) {k : Nat} {c : Array Value} {t : TypeId} {m : Nat × Nat} (h : V.heap[k]? = some (.cells c t m)) : (V.putObj l o).heap[k]? = some (.cells c t m) := by
  rw [World.putObj_heap_other (fun e => by rw [e, hl] at h; cases h)]
  exact h
theorem boxed_below {V V' : World} {B : Nat} {t : TypeId} {v : Value} (h : Boxed V B t v) (hb : Below V.heap.size V V') : Boxed V' B t v := (hb.block _ h.lt).trans h
theorem put_rd {K : IntKind} {V : World} {l : Nat} {r : Loop} (hl : V.heap[l]? = some (.loop r)) (o : Obj) {A : Option Addr} {n : Nat} {f : Nat → Nat} (h : Rd K V A n f) : Rd K (V.putObj l o) A n f := fun j hj => by
  obtain ⟨ad, e, hc⟩ := h j hj
  refine ⟨ad, e, (World.cell?_of_block (World.putObj_heap_other fun e2 => ?_)).trans hc⟩
  rw [World.cell?, e2, hl] at hc
  cases hc
theorem put_belowW {w V : World} {l : Nat} (o : Obj) (hw : w.heap.size ≤ l) (h : Below w.heap.size w V) : Below w.heap.size w (V.putObj l o) :=
  ⟨h.os, h.tape, h.output, by simpa using h.size, fun k hk => (World.putObj_heap_other (by omega)).trans (h.block k hk)⟩
end Go.Proofs.Ytmcbmbcfgefocaa

/- Contracts: following, an iterator over the cells that follow. -/
namespace Go.Proofs.Ytmcbmbcfgefocaa
open Go.RowKit Go.Shelf
set_option linter.unusedSimpArgs false
set_option linter.unusedVariables false
attribute [local go_sem] Oper.semAt_some

/-- D says what X says. -/
def sameX (D X : CellD) : Prop := D.g = X.g ∧ D.s = X.s ∧ D.p = X.p ∧ D.q = X.q ∧ D.n = X.n ∧ D.f = X.f
abbrev encD (D : CellD) : Array Value := #[D.val]
abbrev objD (D : CellD) : Obj := .cells #[.int .u32 (D.g : Nat), .int .u32 (D.s : Nat), .int .i64 D.p, .int .i64 D.q, .slice D.A D.n D.c] 106
/-- What the iterator reads between two rounds. -/
def FolM (F : Nat → Prop) (gd gq Bi Bq i0 : Nat) (Q : QS) (S : DS) (V : World) : Prop :=
  Boxed V Bi 3 (.int .i64 (i0 : Nat)) ∧ Boxed V Bq 54 (.pointer (some ⟨gq, 0, none⟩)) ∧ SBox V gq gd Q ∧ DskAt F V gd S
def FolG (i0 : Nat) (S : DS) (pre : List CellD) (D : CellD) (V : World) : Prop :=
  HasD V D ∧ cellB (rdS S (i0 + pre.length)) = true ∧ sameX D (cellX (rdS S (i0 + pre.length)))
def FolS (i0 : Nat) (Q : QS) (S : DS) (xs : List CellD) : Prop := i0 + xs.length ≤ Q.behind ∧ (i0 + xs.length = Q.behind ∨ cellB (rdS S (i0 + xs.length)) = false)
theorem following_any (gq i0 : Nat) (w : World) :
    Calls Try.prog 70 #[.pointer (some ⟨gq, 0, none⟩), .int .i64 (i0 : Nat)] w fun e w' => e = .returned (.func (.func 81) #[] #[.pointer (some ⟨w.heap.size + 1, 0, none⟩), .pointer (some ⟨w.heap.size, 0, none⟩)]) ∧
      w' = (w.alloc (.cells #[.pointer (some ⟨gq, 0, none⟩)] 54)).alloc (.cells #[.int .i64 (i0 : Nat)] 3) := by
  go_enter Try.func70, Try.ntmps70
  go_wp2
  go_ret
  exact ⟨by simp, rfl⟩
set_option maxRecDepth 100000 in
set_option maxHeartbeats 4000000 in
theorem following1_in (n : Nat) {F : Nat → Prop} {gd gq Bi Bq i0 : Nat} {Q : QS} {S : DS} (hi0 : i0 ≤ Q.behind) (W : World) :
    SeqG n Try.prog 81 #[.pointer (some ⟨Bi, 0, none⟩), .pointer (some ⟨Bq, 0, none⟩)] encD (FolM F gd gq Bi Bq i0 Q S) (FolG i0 S) (fun _ _ => True) (FolS i0 Q S) (fun _ => True) (Q.behind - i0) W := by
  intro l J Jx hM hJ hJx hY h0
  have HM := Lib.hid hM
  have HJ := Lib.hid hJ
  have HY := Lib.hid hY
  obtain ⟨m1, m2, m3, m4⟩ := hM _ _ h0
  have hb : Q.behind ≤ 1000 := m3.2.2.2.1
  have hc1 := m1.cell
  clear hM hJ hY hJx m2 m3 m4
  refine callsIn_of_wp Try.func81 rfl trivial ?_ rfl
  simp only [Try.ntmps81, List.size_toArray, List.length_cons, List.length_nil, Nat.reduceAdd, Nat.reduceSub, Array.replicate_succ, Array.replicate_zero, List.push_toArray, List.append_toArray, List.nil_append, List.cons_append]
  gi_wp2
  gi_loopw [4] (fun v wr => ∃ pre : List CellD, v = .int .i64 ((i0 + pre.length : Nat) : Int) ∧ i0 + pre.length ≤ Q.behind ∧ J pre wr) (fun v _ => Q.behind - (intOf v).toNat)
  case atStart => exact ⟨[], rfl, hi0, h0⟩
  case round =>
    obtain ⟨pre, rfl, hle, hJs⟩ := hrel
    clear hc1 m1 h0
    obtain ⟨m1, m2, m3, m4⟩ := HM.out _ _ hJs
    have c2 := m2.cell
    obtain ⟨_, _, d2, _, _, _⟩ := m3.cells
    have HA := Lib.hid (at_any m4 m3 ((i0 + pre.length : Nat) : Int))
    have HJS := Lib.hid hJs
    clear m1 m2 m3 m4 hJs
    by_cases hlt : i0 + pre.length < Q.behind
    · have hlt2 : ((i0 + pre.length : Nat) : Int) < ((Q.behind : Nat) : Int) := by omega
      have HGN : Hid (∀ D V, HasD V D → cellB (rdS S (i0 + pre.length)) = true → sameX D (cellX (rdS S (i0 + pre.length))) → FolG i0 S pre D V) := fun D V h1 h2 h3 => ⟨h1, h2, h3⟩
      have hpl : pre.length < Q.behind - i0 := by omega
      have HSF : Hid (cellB (rdS S (i0 + pre.length)) = false → FolS i0 Q S pre) := fun h => ⟨hle, .inr h⟩
      obtain ⟨s, hs⟩ : ∃ s, rdS S (i0 + pre.length) = s := ⟨_, rfl⟩
      rw [show (S.read ((i0 + pre.length : Nat) : Int)).1 = s from hs] at HA
      rw [hs] at HGN HSF
      have HI := Lib.hid (show i0 + pre.length + 1 = i0 + (pre.length + 1) from rfl)
      clear hs
      obtain ⟨i, hi⟩ : ∃ i, i0 + pre.length = i := ⟨_, rfl⟩
      rw [hi] at HI hlt hlt2 HA hle
      rw [hi]
      have HII := Lib.hid hi
      clear hi
      by_cases hc : cellB s = true
      · have HC := Lib.hid hc
        gi_wp2_with (refine ⟨trivial, fun h => (by cases h), ?_⟩; gi_at_call 72; refine (callsIn_wide.2 HA.out).mono ?_; rintro e w3 ⟨⟨D, rfl, hD, hDX⟩, hb3⟩; rw [HC.out]; have hnw := below_new w3 (objD D); have HJ3 := Lib.hid (HJ.out _ _ _ (HJ.out _ _ _ HJS.out hb3) hnw); obtain ⟨fn, tmps, assign, body, hy, hR⟩ := HY.out pre D _ HJ3.out hpl (HGN.out D _ (hD.below hnw) HC.out (hDX HC.out)); have HR := Lib.hid hR; have HX3 := Lib.hid (BoxH.new w3 D.g D.s D.p D.q D.A D.n D.c); clear hb3 hD hDX hnw hR; obtain ⟨x0, x1, x2, x3, x4⟩ := HX3.out.boxc)
        refine ⟨fun h => (by cases h), ?_⟩
        refine HR.out.mono ?_
        clear x0 x1 x2 x3 x4
        rintro e W3 (⟨rfl, hJ4, hk4⟩ | ⟨rfl, hJx4⟩)
        · gi_wp2
          go_roundw
          case rel => exact ⟨pre ++ [D], by rw [List.length_append, List.length_singleton, ← HI.out]; go_num, by rw [List.length_append, List.length_singleton, ← HI.out]; omega, hJ4⟩
          case measure => simp [intOf]; omega
        · gi_wp2
          refine bodyPost_ret (results_none rfl _ _ _) rfl ?_
          exact ⟨⟨_, rfl⟩, .inr ⟨_, trivial, hJx4⟩⟩
      · have HC := Lib.hid (show cellB s = false from by simpa using hc)
        gi_wp2_with (refine ⟨trivial, fun h => (by cases h), ?_⟩; gi_at_call 72; refine (callsIn_wide.2 HA.out).mono ?_; rintro e w3 ⟨⟨D, rfl, hD, hDX⟩, hb3⟩; rw [HC.out]; have hnw := below_new w3 (objD D); have HJ3 := Lib.hid (HJ.out _ _ _ (HJ.out _ _ _ HJS.out hb3) hnw); clear hb3 hD hDX hnw)
        refine ⟨fun _ h => (by cases h), ?_⟩
        gi_wp2
        refine bodyPost_ret (results_none rfl _ _ _) rfl ?_
        exact ⟨⟨_, rfl⟩, .inl ⟨_, HSF.out HC.out, HJ3.out⟩⟩
    · have hge : i0 + pre.length = Q.behind := by omega
      have hlt2 : ¬ (((i0 + pre.length : Nat) : Int) < ((Q.behind : Nat) : Int)) := by omega
      gi_wp2
      go_end0
      exact ⟨⟨_, rfl⟩, .inl ⟨_, ⟨hle, .inl hge⟩, HJS.out⟩⟩
end Go.Proofs.Ytmcbmbcfgefocaa
