/- What a segment's records are, by the sectors alone. -/
import Derived.Test.YtmcbmbcfgefocaaPNc
import Derived.Test.YtmcbmbcfgefocaaPDa
import Derived.Test.YtmcbmbcfgefocaaPDd
import Derived.Deep.RegionLaw
namespace Go.Proofs.Ytmcbmbcfgefocaa
open Go.RowKit
set_option linter.unusedSimpArgs false
set_option linter.unusedVariables false

/-- q cells from sector i on are a record of this generation, its number above the last. -/
def recP (T : Nat → Option (Nat → Nat)) (b gen i last q : Nat) : Prop :=
  i + q ≤ b ∧ (∀ k, k < q → cellB (T (i + k)) = true) ∧ joinP q (fun k => cellX (T (i + k))) ∧ (cellX (T i)).g = gen ∧ last < (cellX (T i)).s
theorem recP.pos {T : Nat → Option (Nat → Nat)} {b gen i last q : Nat} (h : recP T b gen i last q) : 0 < q := h.2.2.1.1
theorem recP.uniq {T : Nat → Option (Nat → Nat)} {b gen i last q q' : Nat} (h : recP T b gen i last q) (h' : recP T b gen i last q') : q = q' := by
  have h1 := (h.2.2.1.2 0 h.pos).2.2.1
  have h2 := (h'.2.2.1.2 0 h'.pos).2.2.1
  omega
/-- A record: how long it is, and its bytes. -/
abbrev Rec := Nat × (Nat → Nat)
noncomputable def recR (T : Nat → Option (Nat → Nat)) (i q : Nat) : Rec := (joinN q (fun k => cellX (T (i + k))) q, joinF fun k => cellX (T (i + k)))
/-- The records from sector i on, behind a number; where they end. -/
inductive Scn (T : Nat → Option (Nat → Nat)) (b gen : Nat) : Nat → Nat → List Rec → Nat → Nat → Prop
  | stop {i last : Nat} : (∀ q, ¬ recP T b gen i last q) → Scn T b gen i last [] i last
  | more {i last q e l : Nat} {rs : List Rec} : recP T b gen i last q → Scn T b gen (i + q) (cellX (T i)).s rs e l → Scn T b gen i last (recR T i q :: rs) e l
section
variable {T T' : Nat → Option (Nat → Nat)} {b gen : Nat}
theorem Scn.uniq {i last : Nat} {rs : List Rec} {e l : Nat} (h : Scn T b gen i last rs e l) : ∀ {rs' : List Rec} {e' l' : Nat}, Scn T b gen i last rs' e' l' → rs = rs' ∧ e = e' ∧ l = l' := by
  induction h with
  | stop h =>
    intro rs' e' l' k
    cases k with
    | stop _ => exact ⟨rfl, rfl, rfl⟩
    | more k _ => exact absurd k (h _)
  | more h _ ih =>
    intro rs' e' l' k
    cases k with
    | stop k => exact absurd h (k _)
    | more k k2 =>
      obtain rfl := h.uniq k
      obtain ⟨rfl, rfl, rfl⟩ := ih k2
      exact ⟨rfl, rfl, rfl⟩
theorem Scn.le {i last : Nat} {rs : List Rec} {e l : Nat} (h : Scn T b gen i last rs e l) (hi : i ≤ b) : i ≤ e ∧ e ≤ b ∧ last ≤ l := by
  induction h with
  | stop _ => exact ⟨Nat.le_refl _, hi, Nat.le_refl _⟩
  | more h _ ih =>
    have h1 := h.1
    have h2 := h.2.2.2.2
    have := ih h1
    omega
theorem Scn.ends {i last : Nat} {rs : List Rec} {e l : Nat} (h : Scn T b gen i last rs e l) : ∀ q, ¬ recP T b gen e l q := by
  induction h with
  | stop h => exact h
  | more _ _ ih => exact ih
/-- Not a record: the cells end, one is of another generation or not above the last, and those before never joined. -/
theorem rec_none {i last k : Nat} (hk : ∀ q, 0 < q → q ≤ k → ¬ joinP q (fun k => cellX (T (i + k)))) (hend : b ≤ i + k ∨ cellB (T (i + k)) = false) : ∀ q, ¬ recP T b gen i last q := fun q h => by
  by_cases hq : q ≤ k
  · exact hk q h.pos hq h.2.2.1
  · rcases hend with he | he
    · have := h.1; omega
    · have := h.2.1 k (by omega)
      rw [he] at this
      cases this
theorem rec_alien {i last k : Nat} (hk : ∀ q, 0 < q → q ≤ k → ¬ joinP q (fun k => cellX (T (i + k)))) (hend : (cellX (T (i + k))).g ≠ gen ∨ (cellX (T (i + k))).s ≤ last) : ∀ q, ¬ recP T b gen i last q := fun q h => by
  by_cases hq : q ≤ k
  · exact hk q h.pos hq h.2.2.1
  · have h1 := h.2.2.1.2 k (by omega)
    have h2 := h.2.2.2
    have e : (fun k => cellX (T (i + k))) 0 = cellX (T i) := rfl
    rcases hend with he | he
    · refine he ?_
      have := h1.2.2.2.1
      rw [e] at this
      exact this.trans h2.1
    · have := h1.2.2.2.2
      rw [e] at this
      have h3 : (cellX (T (i + k))).s = (cellX (T i)).s := this
      omega
end
end Go.Proofs.Ytmcbmbcfgefocaa

/- A list of cells: appended to, changed. -/
namespace Go.Proofs.Ytmcbmbcfgefocaa
open Go.RowKit
set_option linter.unusedSimpArgs false
set_option linter.unusedVariables false

theorem rowL_congr {X Y : Nat → CellD} : ∀ n, (∀ i, i < n → X i = Y i) → rowL X n = rowL Y n
  | 0, _ => rfl
  | n + 1, h => by rw [rowL_succ, rowL_succ, rowL_congr n (fun i hi => h i (by omega)), h n (by omega)]
end Go.Proofs.Ytmcbmbcfgefocaa

/- Frames by the types of blocks; lists of rows; what the loops of a scan carry. -/
namespace Go.Proofs.Ytmcbmbcfgefocaa
open Go.RowKit Go.Shelf
set_option linter.unusedSimpArgs false
set_option linter.unusedVariables false

/-- Of what there was only blocks of the types Ts, and the blocks Bs, may have turned. -/
structure Fr (Ts : TypeId → Prop) (Bs : Nat → Prop) (w w' : World) : Prop where
  os : w'.os = w.os
  tape : w'.tape = w.tape
  output : w'.output = w.output
  size : w.heap.size ≤ w'.heap.size
  block : ∀ k o, w.heap[k]? = some o → ¬ Bs k → (∀ c t m, o = .cells c t m → ¬ Ts t) → w'.heap[k]? = some o
section
variable {Ts : TypeId → Prop} {Bs : Nat → Prop} {w w' w'' : World}
theorem Fr.refl : Fr Ts Bs w w := ⟨rfl, rfl, rfl, Nat.le_refl _, fun _ _ h _ _ => h⟩
theorem Fr.trans (h : Fr Ts Bs w w') (k : Fr Ts Bs w' w'') : Fr Ts Bs w w'' := ⟨k.os.trans h.os, k.tape.trans h.tape, k.output.trans h.output, Nat.le_trans h.size k.size, fun i o h1 h2 h3 => k.block i o (h.block i o h1 h2 h3) h2 h3⟩
theorem Fr.of_below (h : Below w.heap.size w w') : Fr Ts Bs w w' := ⟨h.os, h.tape, h.output, h.size, fun k o h1 _ _ => (h.block k (Array.getElem?_eq_some_iff.1 h1).1).trans h1⟩
theorem Fr.below (h : Fr Ts Bs w w') (k : Below w'.heap.size w' w'') : Fr Ts Bs w w'' := h.trans (.of_below k)
theorem Fr.set (h : Fr Ts Bs w w') {B i : Nat} (hB : Bs B) (v : Value) : Fr Ts Bs w (w'.setCell ⟨B, i, none⟩ v) :=
  ⟨h.os, h.tape, h.output, by simpa [World.setCell] using h.size, fun k o h1 h2 h3 => (Below.heap_setCell w' ⟨B, i, none⟩ v k (fun e => h2 (by rw [e]; exact hB))).trans (h.block k o h1 h2 h3)⟩
theorem Fr.alloc (h : Fr Ts Bs w w') (o : Obj) : Fr Ts Bs w (w'.alloc o) := h.below (below_new _ _)
theorem Fr.grown (h : Fr Ts Bs w w') {base size k : Nat} {e : TypeId} {v : Value} {xs : List Value} (hr : w'.ownsRow base e size v k xs) (he : Ts e) (hg : w'.grownBy w'' v.ownBlock) : Fr Ts Bs w w'' :=
  ⟨hg.os.trans h.os, hg.tape.trans h.tape, hg.output.trans h.output, Nat.le_trans h.size hg.size, fun j o h1 h2 h3 => by
    have h4 := h.block j o h1 h2 h3
    refine (hg.block j (Array.getElem?_eq_some_iff.1 h4).1 fun e' => ?_).trans h4
    rcases hr.2 with ⟨rfl, _⟩ | ⟨g, cap, cur, rfl, _, hgb, _⟩
    · cases e'
    · have : j = g := by simpa [Value.ownBlock] using e'
      subst this
      rw [hgb] at h4
      injection h4 with h4
      exact h3 _ _ _ h4.symm he⟩
theorem Fr.drew (h : Fr Ts Bs w w') : Fr Ts Bs w w'.drew := ⟨h.os, h.tape, h.output, h.size, h.block⟩
theorem Fr.drewN (h : Fr Ts Bs w w') (n : Nat) : Fr Ts Bs w (w'.drewN n) := ⟨h.os, h.tape, h.output, h.size, h.block⟩
theorem Fr.mono {Ts' : TypeId → Prop} {Bs' : Nat → Prop} (h : Fr Ts Bs w w') (ht : ∀ t, Ts t → Ts' t) (hb : ∀ k, Bs k → Bs' k) : Fr Ts' Bs' w w' := ⟨h.os, h.tape, h.output, h.size, fun k o h1 h2 h3 => h.block k o h1 (fun e => h2 (hb k e)) fun c t m e e2 => h3 c t m e (ht t e2)⟩
/-- A frame of what is new behind w0. -/
theorem Fr.belowW {w0 : World} (h : Fr Ts Bs w w') (h0 : Below w0.heap.size w0 w) (hT : ∀ (k : Nat) c t m, w0.heap[k]? = some (Obj.cells c t m) → ¬ Ts t) (hB : ∀ k, Bs k → w0.heap.size ≤ k) : Below w0.heap.size w0 w' :=
  ⟨h.os.trans h0.os, h.tape.trans h0.tape, h.output.trans h0.output, Nat.le_trans h0.size h.size, fun k hk => by
    obtain ⟨o, ho⟩ : ∃ o, w0.heap[k]? = some o := ⟨w0.heap[k], Array.getElem?_eq_getElem hk⟩
    rw [ho]
    exact h.block k o ((h0.block k hk).trans ho) (fun e => by have := hB k e; omega) fun c t m e => by subst e; exact hT k c t m ho⟩
theorem Fr.boxed (h : Fr Ts Bs w w') {B : Nat} {t : TypeId} {v : Value} (hb : Boxed w B t v) (h1 : ¬ Bs B) (h2 : ¬ Ts t) : Boxed w' B t v := h.block _ _ hb h1 fun c t' m e => by cases e; exact h2
theorem Fr.obj (h : Fr Ts Bs w w') {k : Nat} {ds : Option (List Deferred)} (hk : w.heap[k]? = some (.deferred ds)) (h1 : ¬ Bs k) : w'.heap[k]? = some (.deferred ds) := h.block _ _ hk h1 fun c t m e => by cases e
theorem Fr.own (h : Fr Ts Bs w w') {base size k : Nat} {e : TypeId} {v : Value} {xs : List Value} (hr : w.ownsRow base e size v k xs) (h1 : ∀ g, v.ownBlock = some g → ¬ Bs g) (h2 : ¬ Ts e) : w'.ownsRow base e size v k xs := by
  refine ⟨hr.1, ?_⟩
  rcases hr.2 with hn | ⟨g, c, cur, rfl, a1, a2, r⟩
  · exact .inl hn
  · exact .inr ⟨g, c, cur, rfl, a1, h.block g _ a2 (h1 g rfl) fun c t m e => (by cases e; exact h2), r⟩
theorem Fr.typ8 (h : Fr Ts Bs w w') {v : Value} (ht : Typ8 w v) (h1 : ∀ g, v.ownBlock = some g → ¬ Bs g) (h2 : ¬ Ts 5) : Typ8 w' v := fun k hk => by
  obtain ⟨cs, m, a⟩ := ht k hk
  exact ⟨cs, m, h.block k _ a (h1 k hk) fun c t m e => (by cases e; exact h2)⟩
/-- Bytes in a block of bytes. -/
theorem Fr.rd8 (h : Fr Ts Bs w w') {A : Option Addr} {n c : Nat} {f : Nat → Nat} (hr : Rd .u8 w A n f) (ht : Typ8 w (.slice A n c)) (h1 : ∀ ad, A = some ad → ¬ Bs ad.block) (h2 : ¬ Ts 5) : Rd .u8 w' A n f := fun j hj => by
  obtain ⟨ad, e, hc⟩ := hr j hj
  obtain ⟨cs, m, hk⟩ := ht ad.block (by rw [e]; rfl)
  refine ⟨ad, e, (World.cell?_of_block ?_).trans hc⟩
  rw [add_block]
  exact (h.block _ _ hk (h1 ad e) fun c t m e => (by cases e; exact h2)).trans hk.symm
end
/-- A box's block is no block of bytes. -/
theorem boxed_not8 {w : World} {v : Value} (ht : Typ8 w v) {B : Nat} {t : TypeId} {u : Value} (hb : Boxed w B t u) (hne : t ≠ 5) : ∀ g, v.ownBlock = some g → g ≠ B := fun g hg e => by
  obtain ⟨cs, m, h⟩ := ht g hg
  rw [e, show w.heap[B]? = _ from hb] at h
  simp at h
  exact hne h.2.1
/-- A list of rows of bytes, of one's own. -/
def RecsAt (w : World) (base : Nat) (v : Value) (rs : List Rec) : Prop :=
  ∃ vs : List Value, w.ownsRow base 35 1 v rs.length vs ∧ ∀ (i : Nat) (r : Rec), rs[i]? = some r → ∃ u, vs[i]? = some u ∧ Byt w u r.1 r.2 ∧ Typ8 w u
theorem byt_typ {w w' : World} {u : Value} {n : Nat} {f : Nat → Nat} {Ts : TypeId → Prop} {Bs : Nat → Prop} (h : Fr Ts Bs w w') (hb : Byt w u n f) (ht : Typ8 w u) (h1 : ∀ g, u.ownBlock = some g → ¬ Bs g) (h2 : ¬ Ts 5) : Byt w' u n f ∧ Typ8 w' u := by
  refine ⟨?_, h.typ8 ht h1 h2⟩
  obtain ⟨A, c, rfl, hc, hr, hf⟩ := hb
  exact ⟨A, c, rfl, hc, h.rd8 hr ht (fun ad e => h1 ad.block (by rw [e]; rfl)) h2, hf⟩
theorem RecsAt.nil (w : World) (base : Nat) : RecsAt w base (.slice none 0 0) [] := ⟨[], ⟨rfl, .inl ⟨rfl, rfl⟩⟩, fun i r h => by simp at h⟩
theorem RecsAt.fr {w w' : World} {base : Nat} {v : Value} {rs : List Rec} {Ts : TypeId → Prop} {Bs : Nat → Prop} (h : RecsAt w base v rs) (k : Fr Ts Bs w w') (h8 : ¬ Ts 5) (hl : ¬ Ts 35) (hB : ∀ g, Bs g → ∀ c m, w.heap[g]? ≠ some (Obj.cells c 5 m) ∧ w.heap[g]? ≠ some (Obj.cells c 35 m)) : RecsAt w' base v rs := by
  obtain ⟨vs, h1, h2⟩ := h
  refine ⟨vs, k.own h1 (fun g hg hb => ?_) hl, fun i r hr => ?_⟩
  · rcases h1.2 with ⟨rfl, _⟩ | ⟨g', cap, cur, rfl, _, hgb, _⟩
    · cases hg
    · injection hg with hg
      subst hg
      exact (hB _ hb cur (0, 0)).2 hgb
  · obtain ⟨u, hu, hb, ht⟩ := h2 i r hr
    exact ⟨u, hu, byt_typ k hb ht (fun g hg hbs => by
      obtain ⟨cs, m', h⟩ := ht g hg
      exact (hB _ hbs cs m').1 h) h8⟩
/-- A box of another type. -/
theorem boxed_other {w : World} {B : Nat} {t : TypeId} {u : Value} (h : Boxed w B t u) (h1 : t ≠ 5) (h2 : t ≠ 35) : ∀ c m, w.heap[B]? ≠ some (Obj.cells c 5 m) ∧ w.heap[B]? ≠ some (Obj.cells c 35 m) := fun c m => by
  rw [show w.heap[B]? = _ from h]
  exact ⟨fun e => by simp at e; exact h1 e.2.1, fun e => by simp at e; exact h2 e.2.1⟩
theorem RecsAt.below {w w' : World} {base : Nat} {v : Value} {rs : List Rec} (h : RecsAt w base v rs) (k : Below w.heap.size w w') : RecsAt w' base v rs := h.fr (Ts := fun _ => False) (Bs := fun _ => False) (.of_below k) id id fun g h => h.elim
/-- One more row. -/
theorem RecsAt.snoc {w w' : World} {base : Nat} {v v' u : Value} {rs : List Rec} {r : Rec} {vs : List Value} (hrow : w'.ownsRow base 35 1 v' (rs.length + 1) (vs ++ [u])) (hlen : vs.length = rs.length) (hold : ∀ (i : Nat) (r : Rec), rs[i]? = some r → ∃ u, vs[i]? = some u ∧ Byt w' u r.1 r.2 ∧ Typ8 w' u) (hnew : Byt w' u r.1 r.2 ∧ Typ8 w' u) : RecsAt w' base v' (rs ++ [r]) := by
  refine ⟨vs ++ [u], by rw [List.length_append]; exact hrow, fun i r' hi => ?_⟩
  by_cases h : i < rs.length
  · rw [List.getElem?_append_left h] at hi
    obtain ⟨u', h1, h2⟩ := hold i r' hi
    exact ⟨u', by rw [List.getElem?_append_left (by omega)]; exact h1, h2⟩
  · have hil := (List.getElem?_eq_some_iff.1 hi).1
    simp at hil
    obtain rfl : i = rs.length := by omega
    simp at hi
    subst hi
    exact ⟨u, by rw [← hlen]; simp, hnew⟩
end Go.Proofs.Ytmcbmbcfgefocaa
