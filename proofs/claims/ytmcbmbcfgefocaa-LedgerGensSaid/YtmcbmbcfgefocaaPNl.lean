/- Contract: write: what its loop carries. -/
import Derived.Test.YtmcbmbcfgefocaaPNk
namespace Go.Proofs.Ytmcbmbcfgefocaa
open Go.RowKit Go.Shelf
set_option linter.unusedSimpArgs false
set_option linter.unusedVariables false

/-- A cell's sector. -/
def secX (x : CellD) : Nat → Nat := sectF x.g x.s x.p.toNat x.q.toNat x.n x.f
/-- The disk behind the writes of cells from sector e on. -/
def wrS (S : DS) (e : Nat) : List CellD → DS
  | [] => S
  | x :: l => wrS (S.write (e : Nat) (secX x)).1 (e + 1) l
/-- Each of them said OK. -/
def wrC (S : DS) (e : Nat) : List CellD → Prop
  | [] => True
  | x :: l => (S.write (e : Nat) (secX x)).2 = 0 ∧ wrC (S.write (e : Nat) (secX x)).1 (e + 1) l
theorem wrS_snoc (x : CellD) : ∀ (pre : List CellD) (S : DS) (e : Nat), wrS S e (pre ++ [x]) = ((wrS S e pre).write ((e + pre.length : Nat)) (secX x)).1
  | [], S, e => rfl
  | y :: l, S, e => by
    show wrS _ (e + 1) (l ++ [x]) = _
    rw [wrS_snoc x l, List.length_cons, show e + 1 + l.length = e + (l.length + 1) from by omega]
    rfl
theorem wrC_snoc (x : CellD) : ∀ (pre : List CellD) (S : DS) (e : Nat), wrC S e (pre ++ [x]) ↔ wrC S e pre ∧ ((wrS S e pre).write ((e + pre.length : Nat)) (secX x)).2 = 0
  | [], S, e => by simp [wrC, wrS]
  | y :: l, S, e => by
    show (_ ∧ wrC _ (e + 1) (l ++ [x])) ↔ _
    rw [wrC_snoc x l, List.length_cons, show e + 1 + l.length = e + (l.length + 1) from by omega]
    simp only [wrC, wrS, and_assoc]
theorem write_few (S : DS) (i : Int) (f : Nat → Nat) : (S.write i f).1.P.length ≤ S.P.length + 1 := by
  unfold DS.write
  have hb : S.begun.P = S.P := by unfold DS.begun; split <;> (try split) <;> rfl
  split
  · simp
  · split
    · split
      · simp [DS.wrote, hb]
      · simp [hb]
    · simp
theorem wrS_few : ∀ (pre : List CellD) (S : DS) (e : Nat), (wrS S e pre).P.length ≤ S.P.length + pre.length
  | [], S, e => Nat.le_refl _
  | y :: l, S, e => by
    have h1 := wrS_few l (S.write (e : Nat) (secX y)).1 (e + 1)
    have h2 := write_few S (e : Nat) (secX y)
    show (wrS _ (e + 1) l).P.length ≤ _
    rw [List.length_cons]
    omega
/-- Only loops' records of the one place may turn. -/
abbrev FrL (l : Nat) (w w' : World) : Prop := Fr (fun _ => False) (· = l) w w'
theorem frl_put (l : Nat) (V : World) (o : Obj) : FrL l V (V.putObj l o) := ⟨rfl, rfl, rfl, by simp, fun k o' h1 h2 _ => (World.putObj_heap_other h2).trans h1⟩
/-- Where write's loop stands. -/
structure WrI (F : Nat → Prop) (w W0 : World) (gd B4 B5 B6 : Nat) (v4 v5 v6 : Int) (S : DS) (V : World) : Prop where
  dk : ∃ F', DskAt F' V gd S ∧ ∀ k, F' k → F k ∨ W0.heap.size + 2 ≤ k
  on : Only F w V
  fr : Fr tyW (fun k => k = B4 ∨ k = B5 ∨ k = B6) W0 V
  x4 : Boxed V B4 3 (.int .i64 v4)
  x5 : Boxed V B5 25 (.int .i64 v5)
  x6 : Boxed V B6 3 (.int .i64 v6)
/-- The boxes lie apart, behind what there was. -/
structure Apart (F : Nat → Prop) (w W0 : World) (B4 B5 B6 : Nat) : Prop where
  f : ∀ k, F k → k < w.heap.size
  b0 : w.heap.size ≤ B4
  b1 : B4 < B5
  b2 : B5 < B6
  b3 : B6 < W0.heap.size
section
variable {F : Nat → Prop} {w W0 V V' : World} {gd B4 B5 B6 : Nat} {v4 v5 v6 : Int} {S : DS}
theorem WrI.move (h : WrI F w W0 gd B4 B5 B6 v4 v5 v6 S V) (ha : Apart F w W0 B4 B5 B6) {l : Nat} (hl : l = W0.heap.size ∨ l = W0.heap.size + 1) (k : FrL l V V') : WrI F w W0 gd B4 B5 B6 v4 v5 v6 S V' := by
  obtain ⟨a0, a1, a2, a3, a4⟩ := ha
  have key : ∀ j, j < V.heap.size → j ≠ l → V'.heap[j]? = V.heap[j]? := fun j hj hn => by
    obtain ⟨o, ho⟩ : ∃ o, V.heap[j]? = some o := ⟨V.heap[j], Array.getElem?_eq_getElem hj⟩
    rw [ho]
    exact k.block j o ho hn fun _ _ _ _ e => e
  have hwV := h.on.size
  have h0V := h.fr.size
  refine ⟨?_, ?_, ?_, k.boxed h.x4 (by omega) id, k.boxed h.x5 (by omega) id, k.boxed h.x6 (by omega) id⟩
  · obtain ⟨F', h1, h2⟩ := h.dk
    refine ⟨F', h1.keep (fun j hj => key j (h1.lt j hj) fun e => ?_) k.size, h2⟩
    rcases h2 j hj with h3 | h3
    · have := a0 j h3
      omega
    · omega
  · exact ⟨k.os.trans h.on.os, k.tape.trans h.on.tape, k.output.trans h.on.output, Nat.le_trans hwV k.size, fun j hj hn => (key j (by omega) (by omega)).trans (h.on.block j hj hn)⟩
  · exact ⟨k.os.trans h.fr.os, k.tape.trans h.fr.tape, k.output.trans h.fr.output, Nat.le_trans h0V k.size, fun j o h1 h2 h3 => k.block j o (h.fr.block j o h1 h2 h3) (by have := (Array.getElem?_eq_some_iff.1 h1).1; omega) fun _ _ _ _ e => e⟩
theorem WrI.below (h : WrI F w W0 gd B4 B5 B6 v4 v5 v6 S V) (ha : Apart F w W0 B4 B5 B6) (hb : Below V.heap.size V V') : WrI F w W0 gd B4 B5 B6 v4 v5 v6 S V' := h.move ha (.inr rfl) (.of_below hb)
theorem WrI.put (h : WrI F w W0 gd B4 B5 B6 v4 v5 v6 S V) (ha : Apart F w W0 B4 B5 B6) (o : Obj) : WrI F w W0 gd B4 B5 B6 v4 v5 v6 S (V.putObj (W0.heap.size + 1) o) := h.move ha (.inr rfl) (frl_put _ _ _)
theorem SBox.fr {Ts : TypeId → Prop} {Bs : Nat → Prop} {gq : Nat} {Q : QS} (h : SBox V gq gd Q) (k : Fr Ts Bs V V') (h1 : ¬ Bs gq) (h2 : ¬ Ts 86) : SBox V' gq gd Q := by
  obtain ⟨cs, hh, _⟩ := h.1
  exact h.of_block ((k.block _ _ hh h1 fun c t m e => by cases e; exact h2).trans hh.symm)
/-- A box is set. -/
theorem WrI.sets (h : WrI F w W0 gd B4 B5 B6 v4 v5 v6 S V) (ha : Apart F w W0 B4 B5 B6) {B : Nat} (hB : B = B4 ∨ B = B5 ∨ B = B6) (v : Value) :
    (∃ F', DskAt F' (V.setCell ⟨B, 0, none⟩ v) gd S ∧ ∀ k, F' k → F k ∨ W0.heap.size + 2 ≤ k) ∧ Only F w (V.setCell ⟨B, 0, none⟩ v) ∧ Fr tyW (fun k => k = B4 ∨ k = B5 ∨ k = B6) W0 (V.setCell ⟨B, 0, none⟩ v) := by
  obtain ⟨a0, a1, a2, a3, a4⟩ := ha
  refine ⟨?_, h.on.setCell (.inr (by show w.heap.size ≤ B; omega)) v, h.fr.set hB v⟩
  obtain ⟨F', h1, h2⟩ := h.dk
  refine ⟨F', h1.keep (fun j hj => Below.heap_setCell V ⟨B, 0, none⟩ v j fun e => ?_) (by simp [World.setCell]), h2⟩
  have e : j = B := e
  rcases h2 j hj with h3 | h3
  · have := a0 j h3
    omega
  · omega
theorem box_other {B C : Nat} {t : TypeId} {u : Value} (h : Boxed V B t u) (hn : B ≠ C) (v : Value) : Boxed (V.setCell ⟨C, 0, none⟩ v) B t u := (Below.heap_setCell V ⟨C, 0, none⟩ v B hn).trans h
theorem WrI.set6 (h : WrI F w W0 gd B4 B5 B6 v4 v5 v6 S V) (ha : Apart F w W0 B4 B5 B6) (k : Int) : WrI F w W0 gd B4 B5 B6 v4 v5 k S (V.setCell ⟨B6, 0, none⟩ (.int .i64 k)) := by
  obtain ⟨h1, h2, h3⟩ := h.sets ha (.inr (.inr rfl)) (.int .i64 k)
  have := ha.b1
  have := ha.b2
  exact ⟨h1, h2, h3, box_other h.x4 (by omega) _, box_other h.x5 (by omega) _, h.x6.set _⟩
theorem WrI.set4 (h : WrI F w W0 gd B4 B5 B6 v4 v5 v6 S V) (ha : Apart F w W0 B4 B5 B6) (k : Int) : WrI F w W0 gd B4 B5 B6 k v5 v6 S (V.setCell ⟨B4, 0, none⟩ (.int .i64 k)) := by
  obtain ⟨h1, h2, h3⟩ := h.sets ha (.inl rfl) (.int .i64 k)
  have := ha.b1
  have := ha.b2
  exact ⟨h1, h2, h3, h.x4.set _, box_other h.x5 (by omega) _, box_other h.x6 (by omega) _⟩
theorem WrI.set5 (h : WrI F w W0 gd B4 B5 B6 v4 v5 v6 S V) (ha : Apart F w W0 B4 B5 B6) (k : Int) : WrI F w W0 gd B4 B5 B6 v4 k v6 S (V.setCell ⟨B5, 0, none⟩ (.int .i64 k)) := by
  obtain ⟨h1, h2, h3⟩ := h.sets ha (.inr (.inl rfl)) (.int .i64 k)
  have := ha.b1
  have := ha.b2
  exact ⟨h1, h2, h3, box_other h.x4 (by omega) _, h.x5.set _, box_other h.x6 (by omega) _⟩
theorem WrI.post (h : WrI F w W0 gd B4 B5 B6 v4 v5 v6 S V) (hs : w.heap.size ≤ W0.heap.size) : DPost F w V gd S := by
  obtain ⟨F', h1, h2⟩ := h.dk
  exact ⟨F', h1, h.on, fun k hk => (h2 k hk).imp id fun e => by omega⟩
/-- A sector is written. -/
theorem WrI.write (h : WrI F w W0 gd B4 B5 B6 v4 v5 v6 S V) (ha : Apart F w W0 B4 B5 B6) (hU : W0.heap.size + 2 ≤ V.heap.size) (hP : S.P.length ≤ 1000000) (i : Nat) {a : Option Addr} {c : Nat} {f : Nat → Nat} (hv : Byt V (.slice a 64 c) 64 f) :
    Calls Try.prog 49 #[.pointer (some ⟨gd, 0, none⟩), .int .i64 (i : Nat), .slice a 64 c] V fun e V' => e = .returned (.int .i64 (S.write (i : Nat) f).2) ∧ WrI F w W0 gd B4 B5 B6 v4 v5 v6 (S.write (i : Nat) f).1 V' ∧ FrW V V' := by
  obtain ⟨F', h1, h2⟩ := h.dk
  refine (dwrite_any h1 hP i hv).mono ?_
  rintro e V' ⟨rfl, ⟨F2, h3, h4, h5⟩, h6⟩
  have hwV := h.on.size
  have ha' := ha
  obtain ⟨a0, a1, a2, a3, a4⟩ := ha'
  have n1 : ¬ tyW 3 := by unfold tyW; decide
  have n2 : ¬ tyW 25 := by unfold tyW; decide
  refine ⟨rfl, ⟨⟨F2, h3, fun k hk => ?_⟩, h.on.then h4 fun k hk => (h2 k hk).imp id fun e => by omega, h.fr.trans (h6.mono (fun _ => id) fun _ e => e.elim), h6.boxed h.x4 id n1, h6.boxed h.x5 id n2, h6.boxed h.x6 id n1⟩, h6⟩
  rcases h5 k hk with e | e
  · exact h2 k e
  · exact .inr (by omega)
end
theorem results_we {fn : Func} (h : fn.results = #[.cell 4 3, .cell 5 25]) {tmps : Array Value} {w : World} {B4 B5 : Nat} {a b : Int} (h4 : tmps.getD 4 undef = .pointer (some ⟨B4, 0, none⟩)) (h5 : tmps.getD 5 undef = .pointer (some ⟨B5, 0, none⟩)) (c4 : w.cell? ⟨B4, 0, none⟩ = some (.int .i64 a)) (c5 : w.cell? ⟨B5, 0, none⟩ = some (.int .i64 b)) :
    (results fn tmps).run Try.prog w = .ok (.tuple #[.int .i64 a, .int .i64 b]) w := by
  have l4 := block_lt_of_cell c4
  have l5 := block_lt_of_cell c5
  simp only [results, h]
  simp at h4 h5
  simp [Sem.run_bind, Result.andThen, h4, h5]
  go_simp
theorem write_leave {F : Nat → Prop} {w W0 V : World} {gd B4 B5 B6 : Nat} {a b v6 : Int} {S : DS} {G : Fence} {n : Nat} {fn : Func} {tmps : Array Value} {R : Ending → World → Prop} (hfn : fn.results = #[.cell 4 3, .cell 5 25]) (h4 : tmps.getD 4 undef = .pointer (some ⟨B4, 0, none⟩)) (h5 : tmps.getD 5 undef = .pointer (some ⟨B5, 0, none⟩))
    (h : WrI F w W0 gd B4 B5 B6 a b v6 S V) (ha : Apart F w W0 B4 B5 B6) (hD : V.heap[W0.heap.size]? = some (.deferred (some []))) (hR : ∀ V', WrI F w W0 gd B4 B5 B6 a b v6 S V' → R (.returned (.tuple #[.int .i64 a, .int .i64 b])) V') :
    LeavesInM G n Try.prog fn tmps R [markD W0.heap.size] .returning V := by
  refine marks_leave [W0.heap.size] V (fun D hD' => by obtain rfl := List.mem_singleton.1 hD'; exact hD) (by simp) fun w' ho hs => ?_
  have hfr : FrL W0.heap.size V w' := ⟨ho.os, ho.tape, ho.output, ho.size, fun k o h1 h2 _ => (ho.block k (Array.getElem?_eq_some_iff.1 h1).1 (by simpa using h2)).trans h1⟩
  have h' := h.move ha (.inl rfl) hfr
  exact ⟨_, results_we hfn h4 h5 h'.x4.cell h'.x5.cell, hR _ h'⟩
theorem kpc_frw {V V' : World} (h : FrW V V') : KpC V V' := fun k c t m h1 ht => h.block k _ h1 id fun c' t' m' e => by
  cases e
  rcases ht with rfl | rfl <;> (unfold tyW; decide)
theorem kpc_set {V : World} {B : Nat} {t : TypeId} {u : Value} (h : Boxed V B t u) (h1 : t ≠ 106) (h2 : t ≠ 5) (v : Value) : KpC V (V.setCell ⟨B, 0, none⟩ v) := fun k c t' m hk ht => by
  refine (Below.heap_setCell V ⟨B, 0, none⟩ v k fun e => ?_).trans hk
  have e : k = B := e
  rw [e, show V.heap[B]? = _ from h] at hk
  simp at hk
  rcases ht with ht | ht
  · exact h1 (hk.2.1.trans ht)
  · exact h2 (hk.2.1.trans ht)
theorem frw_new {w W0 V : World} {Ts : TypeId → Prop} {Bs : Nat → Prop} (h : Below w.heap.size w W0) (k : Fr Ts Bs W0 V) (hB : ∀ k, Bs k → w.heap.size ≤ k) : Fr Ts (fun _ => False) w V :=
  ⟨k.os.trans h.os, k.tape.trans h.tape, k.output.trans h.output, Nat.le_trans h.size k.size, fun j o h1 _ h3 => k.block j o ((h.block j (Array.getElem?_eq_some_iff.1 h1).1).trans h1) (fun e => by have := hB j e; have := (Array.getElem?_eq_some_iff.1 h1).1; omega) h3⟩
theorem frw_marks {V V' : World} (h : FrW V V') {D : Nat} (hD : V.heap[D]? = some (.deferred (some []))) (hL : ∃ r, V.heap[D + 1]? = some (.loop r)) : V'.heap[D]? = V.heap[D]? ∧ V'.heap[D + 1]? = V.heap[D + 1]? := by
  obtain ⟨r, hr⟩ := hL
  exact ⟨(h.block _ _ hD id fun _ _ _ e => by cases e).trans hD.symm, (h.block _ _ hr id fun _ _ _ e => by cases e).trans hr.symm⟩
/-- Cells of records may be encoded. -/
theorem says_may {Q : QS} {n : Nat} {R : Nat → RowD} {j : Nat} {x : CellD} (h : Says Q n R j x) : mayP x.p x.q x.n := by
  obtain ⟨i, k, hi, hk, _, hp⟩ := h
  have h1 := part_len hp hk
  have h2 := need_few (R i).n
  obtain ⟨_, _, e1, e2, _⟩ := hp
  unfold mayP
  rw [e1, e2]
  refine ⟨by omega, by omega, by omega, by omega, h1.1, h1.2.1, ?_⟩
  by_cases hl : k + 1 < needF (R i).n
  · exact .inr (h1.2.2.1 hl)
  · exact .inl (by omega)
end Go.Proofs.Ytmcbmbcfgefocaa
