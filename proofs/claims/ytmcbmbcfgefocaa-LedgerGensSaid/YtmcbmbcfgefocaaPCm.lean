/- Merged of Mem,Law,Ca,Cc,Dec,Cn. -/

import Derived.Test.YtmcbmbcfgefocaaRows
import Derived.Below
import Derived.Laws.OwnMore
import Derived.Laws.MakeOwn
import Derived.Laws.CopyOwn
import Derived.Laws.NewBlocks
import Derived.Laws.Rows
import Derived.Lib.Hide
import Derived.WalkKit
import Derived.WalkSpells
import Derived.Laws.AppendOwnNone
import Derived.BigQuiet
import Derived.Deep.QuietTactic
import Derived.Laws.BytesArg
/- Slices of integers in memory, read as functions from places to numbers; numbers in a base. Nothing of the program is in here. -/
namespace Go.Proofs.Ytmcbmbcfgefocaa
open Go.RowKit

theorem add_block (a : Addr) (n : Nat) : (a.add n).block = a.block := by unfold Addr.add; split <;> rfl
theorem add_add (a : Addr) (i j : Nat) : (a.add i).add j = a.add (i + j) := by
  unfold Addr.add
  by_cases hi : i = 0 <;> by_cases hj : j = 0 <;> simp [hi, hj, Nat.add_assoc]
theorem add_mk (g o n : Nat) : (⟨g, o, none⟩ : Addr).add n = ⟨g, o + n, none⟩ := by
  unfold Addr.add
  by_cases hn : n = 0 <;> simp [hn]

/-- The n cells from A on read as f. -/
def Rd (K : IntKind) (w : World) (A : Option Addr) (n : Nat) (f : Nat → Nat) : Prop :=
  ∀ j, j < n → ∃ ad, A = some ad ∧ w.cell? (ad.add j) = some (.int K (f j : Nat))

/-- The world changed in block g alone (and in new blocks). -/
def Wr (g : Nat) (w w' : World) : Prop := w.grownBy w' (some g)

/-- No cell of A lies in block g. -/
def Off (A : Option Addr) (g : Nat) : Prop := ∀ ad, A = some ad → ad.block ≠ g

section
variable {K : IntKind} {w w' w'' : World} {A : Option Addr} {n m g : Nat} {f : Nat → Nat}

theorem Rd.zero : Rd K w A 0 f := fun _ h => absurd h (by omega)
theorem Rd.drew (h : Rd K w A n f) : Rd K w.drew A n f := h
theorem Rd.less (h : Rd K w A n f) (hm : m ≤ n) : Rd K w A m f := fun j hj => h j (by omega)
theorem Rd.below (h : Rd K w A n f) (hb : Below w.heap.size w w') : Rd K w' A n f := fun j hj => by
  obtain ⟨ad, e, hc⟩ := h j hj
  exact ⟨ad, e, (hb.cell (p := ad.add j) (block_lt_of_cell hc)).trans hc⟩
theorem Rd.keep {B : Nat} (h : Rd K w A n f) (hB : ∀ ad, A = some ad → ad.block < B) (hb : Below B w w') : Rd K w' A n f := fun j hj => by
  obtain ⟨ad, e, hc⟩ := h j hj
  exact ⟨ad, e, (hb.cell (p := ad.add j) (by rw [add_block]; exact hB _ e)).trans hc⟩
theorem Rd.wr (h : Rd K w A n f) (ho : Off A g) (hb : Wr g w w') : Rd K w' A n f := fun j hj => by
  obtain ⟨ad, e, hc⟩ := h j hj
  refine ⟨ad, e, hb.cell hc ?_⟩
  rw [add_block]
  intro he
  exact ho ad e (Option.some.inj he)
theorem Rd.congr {f' : Nat → Nat} (h : Rd K w A n f) (he : ∀ j, j < n → f j = f' j) : Rd K w A n f' := fun j hj => by
  obtain ⟨ad, e, hc⟩ := h j hj
  exact ⟨ad, e, by rw [hc, he j hj]⟩
theorem Rd.some_ (h : Rd K w A n f) (hn : 0 < n) : ∃ ad, A = some ad ∧ ad.block < w.heap.size := by
  obtain ⟨ad, e, hc⟩ := h 0 hn
  exact ⟨ad, e, by have := block_lt_of_cell hc; rwa [add_block] at this⟩
theorem Rd.at_ {ad : Addr} (h : Rd K w (some ad) n f) {j : Nat} (hj : j < n) : w.cell? (ad.add j) = some (.int K (f j : Nat)) := by
  obtain ⟨ad', e, hc⟩ := h j hj
  injection e with e
  subst e
  exact hc
theorem Rd.drop {ad : Addr} (h : Rd K w (some ad) n f) {k : Nat} (hk : k ≤ n) : Rd K w (some (ad.add k)) (n - k) (fun j => f (k + j)) := fun j hj =>
  ⟨_, rfl, by rw [add_add]; exact h.at_ (by omega)⟩
theorem Wr.refl : Wr g w w := ⟨rfl, rfl, rfl, Nat.le_refl _, fun _ _ _ => rfl⟩
theorem Wr.trans (h : Wr g w w') (h' : Wr g w' w'') : Wr g w w'' :=
  ⟨h'.os.trans h.os, h'.tape.trans h.tape, h'.output.trans h.output, Nat.le_trans h.size h'.size, fun k hk hne =>
    (h'.block k (Nat.lt_of_lt_of_le hk h.size) hne).trans (h.block k hk hne)⟩
theorem Wr.set_ (w : World) (g i : Nat) (v : Value) : Wr g w (w.setCell ⟨g, i, none⟩ v) :=
  ⟨rfl, rfl, rfl, by simp [World.setCell], fun k _ hne => Below.heap_setCell w ⟨g, i, none⟩ v k (fun e => hne (by rw [e]))⟩
theorem Wr.setCell (h : Wr g w w') (i : Nat) (v : Value) : Wr g w (w'.setCell ⟨g, i, none⟩ v) := h.trans (Wr.set_ _ _ _ _)
theorem Wr.drew (h : Wr g w w') : Wr g w w'.drew := ⟨h.os, h.tape, h.output, h.size, h.block⟩
theorem Wr.below {B : Nat} {a : World} (h : Wr g w w') (hb : Below B a w) (hB : B ≤ w.heap.size) (hg : B ≤ g) : Below B a w' :=
  hb.grown h hB fun k hk => by injection hk with hk; omega
end

/-- Block g is all of it known: sz integers, f. -/
def Row (K : IntKind) (t : TypeId) (w : World) (g sz : Nat) (f : Nat → Nat) : Prop :=
  ∃ cs : Array Value, w.heap[g]? = some (.cells cs t (0, 0)) ∧ cs.size = sz ∧ ∀ j, j < sz → cs[j]? = some (.int K (f j : Nat))

def upd (f : Nat → Nat) (i v : Nat) : Nat → Nat := fun j => if j = i then v else f j
theorem upd_same (f : Nat → Nat) (i v : Nat) : upd f i v i = v := by simp [upd]
theorem upd_ne (f : Nat → Nat) (i v : Nat) {j : Nat} (h : j ≠ i) : upd f i v j = f j := by simp [upd, h]

section
variable {K : IntKind} {t : TypeId} {w w' : World} {g sz : Nat} {f : Nat → Nat}
theorem Row.lt (h : Row K t w g sz f) : g < w.heap.size := by
  obtain ⟨cs, hg, _⟩ := h
  rcases Nat.lt_or_ge g w.heap.size with hlt | hge
  · exact hlt
  · rw [Array.getElem?_eq_none hge] at hg; cases hg
theorem Row.cell (h : Row K t w g sz f) {j : Nat} (hj : j < sz) : w.cell? ⟨g, j, none⟩ = some (.int K (f j : Nat)) := by
  obtain ⟨cs, hg, _, hc⟩ := h
  rw [cell_of_row w g j cs t (0, 0) hg, hc j hj]
theorem Row.frozen (h : Row K t w g sz f) (j : Nat) : w.frozen? ⟨g, j, none⟩ = false := by
  obtain ⟨cs, hg, _⟩ := h
  exact frozen_of_row w g j cs t hg
theorem Row.set_ (h : Row K t w g sz f) (i v : Nat) : Row K t (w.setCell ⟨g, i, none⟩ (.int K (v : Nat))) g sz (upd f i v) := by
  obtain ⟨cs, hg, hs, hc⟩ := h
  refine ⟨cs.setIfInBounds i (.int K (v : Nat)), ?_, by simpa using hs, fun j hj => ?_⟩
  · simp [World.setCell, Array.getElem?_modify, hg]
  · by_cases hji : j = i
    · subst hji; rw [upd_same]; simp [hs, hj]
    · rw [upd_ne _ _ _ hji, Array.getElem?_setIfInBounds_ne (fun e => hji e.symm)]; exact hc j hj
theorem Row.congr {f' : Nat → Nat} (h : Row K t w g sz f) (he : ∀ j, j < sz → f j = f' j) : Row K t w g sz f' := by
  obtain ⟨cs, hg, hs, hc⟩ := h
  exact ⟨cs, hg, hs, fun j hj => by rw [hc j hj, he j hj]⟩
theorem Row.rd0 (h : Row K t w g sz f) {n : Nat} (hn : n ≤ sz) : Rd K w (some ⟨g, 0, none⟩) n f := fun j hj =>
  ⟨_, rfl, by rw [add_mk, Nat.zero_add]; exact h.cell (by omega)⟩
theorem Row.drew (h : Row K t w g sz f) : Row K t w.drew g sz f := h
theorem madeCells_get (z : Value) (n j : Nat) (hj : j < n) : (madeCells #[z] n)[j]? = some z := by
  simp [madeCells, hj, Nat.mod_one]
theorem Row.made (w : World) (n : Nat) : Row K t (w.alloc (.cells (madeCells #[.int K 0] n) t)) w.heap.size n (fun _ => 0) :=
  ⟨_, heap_alloc_new w _, size_madeCells _ _, fun _ hj => madeCells_get _ _ _ hj⟩
end

/-- The number that digits are, the least first. -/
def num (B : Nat) (f : Nat → Nat) : Nat → Nat
  | 0 => 0
  | n + 1 => num B f n + f n * B ^ n

section
variable {B : Nat} {f f' : Nat → Nat} {n m : Nat}
theorem num_succ : num B f (n + 1) = num B f n + f n * B ^ n := rfl
theorem num_congr : ∀ n, (∀ j, j < n → f j = f' j) → num B f n = num B f' n
  | 0, _ => rfl
  | n + 1, h => by rw [num_succ, num_succ, num_congr n (fun j hj => h j (by omega)), h n (by omega)]
theorem num_lt (hB : 0 < B) : ∀ n, (∀ j, j < n → f j < B) → num B f n < B ^ n
  | 0, _ => by simp [num]
  | n + 1, h => by
    have h1 := num_lt hB n (fun j hj => h j (by omega))
    have h2 := h n (by omega)
    rw [num_succ, Nat.pow_succ, Nat.mul_comm (B ^ n)]
    have h3 : (f n + 1) * B ^ n ≤ B * B ^ n := Nat.mul_le_mul_right _ h2
    rw [Nat.add_mul, Nat.one_mul] at h3
    omega
end
end Go.Proofs.Ytmcbmbcfgefocaa

/- Laws on make and copy in the words of Mem. Nothing of the program is in here. -/
namespace Go.Proofs.Ytmcbmbcfgefocaa
open Go.RowKit

theorem wpList_make_row {P : Program} {w : World} {ops : Array Oper} {rest : List Oper} {o : Oper} {a : Act} {Q : Exit → Act → World → Prop}
    (hg : o.guard = none) (l c : Operand) (t : TypeId) (hop : o.op = Op.makeSlice t l c)
    (K : IntKind) (e : TypeId) (h1 : P.underlying t = some (.slice e)) (bytes : Nat) (h2 : (P.info? e).map (fun i => (i.zero, i.size, i.bytes)) = some (some (.int K 0), 1, bytes)) (hby : bytes ≤ 8)
    (kl kc : IntKind) (L C : Int) (n : Nat) (hl : a.eval l = .int kl L) (hc : a.eval c = .int kc C) (hL : L = (n : Int)) (hC : C = (n : Int)) (b2 : n ≤ 17592186044416)
    (hK : ∀ w', Row K e w' w.heap.size n (fun _ => 0) → Below w.heap.size w w' → w'.heap.size = w.heap.size + 1 → wpList P ops Q rest (a.put o.dst (.slice (some ⟨w.heap.size, 0, none⟩) n n)) w') :
    wpList P ops Q (o :: rest) a w := by
  refine wpList_plain hg fun K' hK' => ?_
  obtain ⟨i, hi, hz0, hz1, hz2⟩ := info_parts h2
  have hrun := run_make (P := P) w t e i (.int K 0) h1 hi hz0 kl kc n n (by omega) (by omega) (by rw [hz2]; have : (bytes : Int) * n ≤ 8 * n := Int.mul_le_mul_of_nonneg_right (by omega) (by omega); omega) (by omega)
  subst hL
  subst hC
  unfold Oper.wp
  simp only [Int.toNat_natCast, hz1, Nat.mul_one] at hrun
  have hcells : (Value.int K 0).cells = #[.int K 0] := rfl
  rw [hcells] at hrun
  simp [execOp, hop, hl, hc, hrun, Result.andThen]
  exact hK' _ _ (hK _ (Row.made w n) ((Below.refl _ _).alloc (Nat.le_refl _) _) (by simp))

/-- What a row holds behind a copy of m numbers to place o. -/
def splF (f : Nat → Nat) (o m : Nat) (s : Nat → Nat) : Nat → Nat := fun j => if o ≤ j ∧ j < o + m then s (j - o) else f j

theorem wpList_copy_rd {P : Program} {w : World} {ops : Array Oper} {rest : List Oper} {o : Oper} {a : Act} {Q : Exit → Act → World → Prop} (hgd : o.guard = none) (d s : Operand) (dT sT : TypeId)
    (ho : o.op = .call { callee := .builtin .copy, args := #[d, s], argTypes := #[dT, sT] }) (elem : TypeId) (hu : P.underlying dT = some (.slice elem)) (hsz : (P.info? elem).map (·.size) = some 1)
    (K : IntKind) (g off dLen dCap : Nat) (A : Option Addr) (sLen sCap : Nat) (hd : a.eval d = .slice (some ⟨g, off, none⟩) dLen dCap) (hs : a.eval s = .slice A sLen sCap)
    (t : TypeId) (sz : Nat) (f : Nat → Nat) (hrow : Row K t w g sz f) (fs : Nat → Nat) (m : Nat) (hm : m = Nat.min sLen dLen) (hrd : Rd K w A m fs) (hfit : off + m ≤ sz)
    (h : ∀ w', Row K t w' g sz (splF f off m fs) → Wr g w w' → w'.heap.size = w.heap.size → wpList P ops Q rest (a.put o.dst (.int .i64 (m : Nat))) w') :
    wpList P ops Q (o :: rest) a w := by
  have e0 : ∀ x : Nat, goInt x = .int .i64 (x : Nat) := fun _ => rfl
  by_cases h0 : m = 0
  · refine wpList_copy_nothing hgd d s dT sT ho elem hu hsz (some ⟨g, off, none⟩) A dLen dCap sLen sCap hd hs (by rw [← hm]; exact h0) ?_
    have := h w (hrow.congr fun j _ => by simp only [splF]; rw [if_neg (by omega)]) Wr.refl rfl
    rw [h0] at this
    exact this
  · obtain ⟨ad, rfl, _⟩ := hrd 0 (by omega)
    obtain ⟨cur, hg, hcs, hcell⟩ := hrow
    have hlen : ((List.range m).map (fun j => Value.int K (fs j : Nat))).length = m := by simp
    refine wpList_copy_own hgd d s dT sT ho elem hu hsz g off dLen dCap ad sLen sCap hd hs cur t hg ((List.range m).map (fun j => Value.int K (fs j : Nat))) (by rw [hlen, hm]) ?_ (by rw [hlen, hcs]; exact hfit) ?_ ?_
    · intro j v hv
      have hj : j < m := by
        rcases Nat.lt_or_ge j m with hh | hh
        · exact hh
        · rw [List.getElem?_eq_none (by simpa using hh)] at hv; cases hv
      simp [hj] at hv
      rw [hrd.at_ hj, hv]
    · intro v hv
      simp at hv
      obtain ⟨j, _, rfl⟩ := hv
      rfl
    · rw [hlen]
      have hbl : (w.setRow g ((cur.toList.take off ++ ((List.range m).map (fun j => Value.int K (fs j : Nat)) ++ cur.toList.drop (off + m))).toArray)).heap[g]? = _ := setRow_heap w g cur _ t _ hg
      refine h _ ⟨_, hbl, ?_, ?_⟩ ⟨rfl, rfl, rfl, by simp, fun k _ hne => setRow_other w g k _ (fun e => hne (by rw [e]))⟩ (by simp)
      · simp [hcs]; omega
      · intro j hj
        have hcl : cur.toList.length = sz := by simp [hcs]
        simp only [List.getElem?_toArray, splF]
        by_cases h1 : j < off
        · rw [if_neg (by omega), List.getElem?_append_left (by simp [hcs]; omega), List.getElem?_take, if_pos h1, Array.getElem?_toList]
          exact hcell j hj
        · rw [List.getElem?_append_right (by simp; omega)]
          have hl1 : (List.take off cur.toList).length = off := by simp [hcs]; omega
          rw [hl1]
          by_cases h2 : j < off + m
          · rw [if_pos ⟨by omega, h2⟩, List.getElem?_append_left (by simp; omega)]
            rw [List.getElem?_map, List.getElem?_range (by omega)]
            rfl
          · rw [if_neg (by omega), List.getElem?_append_right (by simp; omega), hlen, List.getElem?_drop, Array.getElem?_toList]
            rw [show off + m + (j - off - m) = j from by omega]
            exact hcell j hj

/-- A slice of the call's own: nil, or at the head of a block of its own from number base on. -/
def Own (K : IntKind) (t : TypeId) (w : World) (base : Nat) (v : Value) (n : Nat) (f : Nat → Nat) : Prop :=
  w.ownsRow base t 1 v n ((List.range n).map fun j => Value.int K (f j : Nat))

section
variable {K : IntKind} {t : TypeId} {w w' : World} {base n : Nat} {v : Value} {f : Nat → Nat}
theorem Own.congr {f' : Nat → Nat} (h : Own K t w base v n f) (he : ∀ j, j < n → f j = f' j) : Own K t w base v n f' := by
  unfold Own at *
  have e : ((List.range n).map fun j => Value.int K (f j : Nat)) = (List.range n).map fun j => Value.int K (f' j : Nat) := List.map_congr_left fun j hj => by rw [he j (by simpa using hj)]
  rw [← e]
  exact h
theorem Own.form (h : Own K t w base v n f) : (v = .slice none 0 0 ∧ n = 0) ∨ ∃ g c, v = .slice (some ⟨g, 0, none⟩) n c ∧ base ≤ g ∧ n ≤ c := by
  rcases h.2 with h | ⟨g, c, cur, rfl, hb, _, hc, _⟩
  · exact .inl h
  · exact .inr ⟨g, c, rfl, hb, hc⟩
theorem Own.rd_ {A : Option Addr} {c : Nat} (h : Own K t w base (.slice A n c) n f) : Rd K w A n f := fun j hj => by
  rcases h.form with ⟨_, h0⟩ | ⟨g, c', hv, _⟩
  · omega
  · injection hv with hA _ hc
    subst hA
    refine ⟨_, rfl, ?_⟩
    rw [add_mk, Nat.zero_add]
    have := World.ownsRow.cellAt (g := g) (cap := c) h j (by omega)
    rw [this]
    simp [hj]
theorem Own.keep {B : Nat} (h : Own K t w base v n f) (hb : Below B w w') (hB : ∀ g, v.ownBlock = some g → g < B) : Own K t w' base v n f := by
  refine ⟨h.1, ?_⟩
  rcases h.2 with hn | ⟨g, c, cur, rfl, hg, hh, r⟩
  · exact .inl hn
  · exact .inr ⟨g, c, cur, rfl, hg, (hb.block g (hB g rfl)).trans hh, r⟩
theorem Own.below (h : Own K t w base v n f) (hb : Below w.heap.size w w') : Own K t w' base v n f := h.keep hb fun g hg => (World.ownsRow.lt h g hg).2
theorem Own.alloc (h : Own K t w base v n f) (o : Obj) : Own K t (w.alloc o) base v n f := World.ownsRow.alloc h o
end

/-- What stands behind an append. -/
def appF (f : Nat → Nat) (n : Nat) (g : Nat → Nat) : Nat → Nat := fun j => if j < n then f j else g (j - n)
theorem map_app {K : IntKind} (f : Nat → Nat) (n m : Nat) (g : Nat → Nat) :
    ((List.range n).map fun j => Value.int K (f j : Nat)) ++ ((List.range m).map fun j => Value.int K (g j : Nat)) = (List.range (n + m)).map fun j => Value.int K (appF f n g j : Nat) := by
  apply List.ext_getElem?
  intro i
  by_cases hi : i < n
  · rw [List.getElem?_append_left (by simpa using hi)]
    simp [hi, appF, show i < n + m from by omega]
  · rw [List.getElem?_append_right (by simpa using hi)]
    by_cases hm : i < n + m
    · simp [hi, hm, appF, show i - n < m from by omega]
    · simp [hm, show ¬ i - n < m from by omega]

theorem wpList_app {P : Program} {w : World} {ops : Array Oper} {rest : List Oper} {o : Oper} {a : Act} {Q : Exit → Act → World → Prop} (hgd : o.guard = none) (s x : Operand) (t : TypeId)
    (ho : o.op = .call { callee := .builtin .append, args := #[s, x], argTypes := #[t, t] })
    (K : IntKind) (e : TypeId) (ht : P.underlying t = some (.slice e)) (bytes : Nat) (hinfo : (P.info? e).map (fun i => (i.zero, i.size, i.bytes)) = some (some (.int K 0), 1, bytes)) (hby : bytes ≤ 8)
    (base : Nat) (v : Value) (n : Nat) (f : Nat → Nat) (hs : a.eval s = v) (hown : Own K e w base v n f)
    (A : Option Addr) (m c : Nat) (g : Nat → Nat) (hx : a.eval x = .slice A m c) (hr : Rd K w A m g) (hA : A = none → m = 0 ∧ c = 0)
    (hnm : n + m ≤ 17592186044416) (hbase : base ≤ w.heap.size)
    (h : ∀ v' w', Own K e w' base v' (n + m) (appF f n g) → Below base w w' → w.heap.size ≤ w'.heap.size → wpList P ops Q rest (a.put o.dst v') w') : wpList P ops Q (o :: rest) a w := by
  obtain ⟨i, hi, hz0, hz1, hz2⟩ := info_parts hinfo
  rcases A with _ | ad
  · obtain ⟨rfl, rfl⟩ := hA rfl
    refine wpList_append_own_none hgd s x t ho base e i 1 ht hi v n _ hs hown hx ?_
    exact h v w (hown.congr fun j hj => by simp [appF, hj]) (Below.refl _ _) (Nat.le_refl _)
  · have hb : (n + m) * bytes ≤ 140737488355328 := by
      have : (n + m) * bytes ≤ 17592186044416 * 8 := Nat.mul_le_mul hnm hby
      omega
    refine wpList_append_own w hgd s x t ho base e i (.int K 0) 1 bytes ht hi hz0 hz1 hz2 rfl (by omega) v n _ hs hown ad m c ((List.range m).map fun j => Value.int K (g j : Nat)) hx (by simp) ?_ ?_ (by simp only [maxLen]; omega) hb hbase ?_
    · intro j u hu
      have hj : j < m := by
        rcases Nat.lt_or_ge j m with hh | hh
        · exact hh
        · rw [List.getElem?_eq_none (by simpa using hh)] at hu; cases hu
      simp [hj] at hu
      rw [hr.at_ hj, hu]
    · intro u hu
      simp at hu
      obtain ⟨j, _, rfl⟩ := hu
      rfl
    · intro v' w' h2 h3 _
      rw [map_app] at h2
      exact h v' w' h2 ((Below.refl _ _).grown h3 hbase fun k hk => (World.ownsRow.lt hown k hk).1) h3.size

theorem wpList_make_cap {P : Program} {w : World} {ops : Array Oper} {rest : List Oper} {o : Oper} {a : Act} {Q : Exit → Act → World → Prop}
    (hg : o.guard = none) (l c : Operand) (t : TypeId) (hop : o.op = Op.makeSlice t l c)
    (K : IntKind) (e : TypeId) (h1 : P.underlying t = some (.slice e)) (bytes : Nat) (h2 : (P.info? e).map (fun i => (i.zero, i.size, i.bytes)) = some (some (.int K 0), 1, bytes)) (hby : bytes ≤ 8)
    (kl kc : IntKind) (C : Int) (n : Nat) (hl : a.eval l = .int kl 0) (hc : a.eval c = .int kc C) (hC : C = (n : Int)) (b2 : n ≤ 17592186044416) (f : Nat → Nat)
    (hK : ∀ w', Own K e w' w.heap.size (.slice (some ⟨w.heap.size, 0, none⟩) 0 n) 0 f → Below w.heap.size w w' → w.heap.size ≤ w'.heap.size → wpList P ops Q rest (a.put o.dst (.slice (some ⟨w.heap.size, 0, none⟩) 0 n)) w') :
    wpList P ops Q (o :: rest) a w := by
  obtain ⟨i, hi, hz0, hz1, hz2⟩ := info_parts h2
  refine wpList_make_own w hg l c t hop w.heap.size e i (.int K 0) 1 h1 hi hz0 hz1 kl kc C n hl hc hC ?_ (by simp only [maxLen]; omega) (Nat.le_refl _) ?_
  · rw [hz2]
    have : bytes * n ≤ 8 * 17592186044416 := Nat.mul_le_mul hby b2
    omega
  · intro w' h3 h4
    exact hK w' h3 ((Below.refl _ _).grown h4 (Nat.le_refl _) fun k hk => by cases hk) h4.size
end Go.Proofs.Ytmcbmbcfgefocaa

/- Contracts: cut, sign, Trim, Cmp. -/
namespace Go.Proofs.Ytmcbmbcfgefocaa
open Go.RowKit

end Go.Proofs.Ytmcbmbcfgefocaa

/- Contracts: Trim. -/
namespace Go.Proofs.Ytmcbmbcfgefocaa
open Go.RowKit

end Go.Proofs.Ytmcbmbcfgefocaa

/- Decimal digits. Nothing of the program is in here. -/
namespace Go.Proofs.Ytmcbmbcfgefocaa
open Go.RowKit

section
variable {P : Program} (w : World)
end
end Go.Proofs.Ytmcbmbcfgefocaa

/- Contracts: isNumber. -/
namespace Go.Proofs.Ytmcbmbcfgefocaa
open Go.RowKit

end Go.Proofs.Ytmcbmbcfgefocaa

/- The sum of 32 bits, as numbers: shifts, linear by exclusive or; what n bytes come to. Nothing of the program is in here. -/
namespace Go.Proofs.Ytmcbmbcfgefocaa

def sh (x : Nat) : Nat := (x / 2) ^^^ (if x % 2 = 1 then 3988292384 else 0)
def shn : Nat → Nat → Nat
  | 0, x => x
  | n + 1, x => shn n (sh x)

theorem half_xor (x y : Nat) : (x ^^^ y) / 2 = (x / 2) ^^^ (y / 2) := by
  have h := Nat.shiftRight_xor_distrib (a := x) (b := y) (i := 1)
  simpa [Nat.shiftRight_eq_div_pow] using h
theorem par_xor (x y : Nat) : (x ^^^ y) % 2 = (x % 2 + y % 2) % 2 := by
  have h := Nat.xor_mod_two_pow (a := x) (b := y) (n := 1)
  rw [Nat.pow_one] at h
  rw [h]
  rcases Nat.mod_two_eq_zero_or_one x with h | h <;> rcases Nat.mod_two_eq_zero_or_one y with h' | h' <;> simp [h, h']
theorem sh_xor (x y : Nat) : sh (x ^^^ y) = sh x ^^^ sh y := by
  unfold sh
  rw [half_xor, par_xor]
  rcases Nat.mod_two_eq_zero_or_one x with h | h <;> rcases Nat.mod_two_eq_zero_or_one y with h' | h' <;> simp [h, h', Nat.xor_assoc]
  · rw [Nat.xor_comm 3988292384]
  · rw [← Nat.xor_assoc 3988292384, Nat.xor_comm 3988292384, Nat.xor_assoc, Nat.xor_self, Nat.xor_zero]
theorem sh_zero : sh 0 = 0 := by decide
theorem shn_zero : ∀ n, shn n 0 = 0
  | 0 => rfl
  | n + 1 => by rw [shn, sh_zero, shn_zero n]
theorem shn_xor : ∀ n x y, shn n (x ^^^ y) = shn n x ^^^ shn n y
  | 0, _, _ => rfl
  | n + 1, x, y => by rw [shn, sh_xor, shn_xor n]; rfl
theorem shn_add : ∀ m n x, shn (m + n) x = shn n (shn m x)
  | 0, n, x => by rw [Nat.zero_add]; rfl
  | m + 1, n, x => by rw [show m + 1 + n = (m + n) + 1 by omega, shn, shn_add m n]; rfl
theorem sh_dbl (x : Nat) : sh (2 * x) = x := by
  unfold sh
  have h1 : 2 * x / 2 = x := by omega
  have h2 : 2 * x % 2 = 0 := by omega
  rw [h1, h2]; simp
theorem shn_shl : ∀ n x, shn n (x * 2 ^ n) = x
  | 0, x => by simp [shn]
  | n + 1, x => by
    rw [shn, show x * 2 ^ (n + 1) = 2 * (x * 2 ^ n) by rw [Nat.pow_succ, ← Nat.mul_assoc]; exact Nat.mul_comm _ _, sh_dbl, shn_shl n]
theorem sh_lt {x : Nat} (h : x < 4294967296) : sh x < 4294967296 := by
  unfold sh
  exact Nat.xor_lt_two_pow (n := 32) (by omega) (by split <;> decide)
theorem shn_lt : ∀ n {x : Nat}, x < 4294967296 → shn n x < 4294967296
  | 0, _, h => h
  | n + 1, _, h => by rw [shn]; exact shn_lt n (sh_lt h)
theorem add_xor {a k : Nat} (b : Nat) (h : a < 2 ^ k) : a + b * 2 ^ k = a ^^^ (b * 2 ^ k) := by
  apply Nat.eq_of_testBit_eq
  intro j
  rw [Nat.add_comm, Nat.mul_comm, Nat.testBit_two_pow_mul_add _ h, Nat.testBit_xor, Nat.testBit_two_pow_mul]
  by_cases hj : j < k
  · simp [hj, show ¬ k ≤ j by omega]
  · have : a.testBit j = false := Nat.testBit_lt_two_pow (Nat.lt_of_lt_of_le h (Nat.pow_le_pow_right (by decide) (by omega)))
    simp [hj, this, show k ≤ j by omega]
theorem p256 (n : Nat) : 256 ^ n = 2 ^ (8 * n) := by rw [Nat.pow_mul]
theorem num_lt' {f : Nat → Nat} : ∀ n, (∀ j, j < n → f j < 256) → num 256 f n < 2 ^ (8 * n)
  | 0, _ => by simp [num]
  | n + 1, h => by
    have h1 := num_lt' n (fun j hj => h j (by omega))
    have h2 := h n (by omega)
    rw [num, p256, show 8 * (n + 1) = 8 * n + 8 by omega, Nat.pow_add]
    generalize 2 ^ (8 * n) = P at *
    have h3 : (f n + 1) * P ≤ 256 * P := Nat.mul_le_mul_right _ h2
    rw [Nat.add_mul, Nat.one_mul] at h3
    omega
theorem byte_xor {a b : Nat} (ha : a < 256) (hb : b < 256) : a ^^^ b < 256 := Nat.xor_lt_two_pow (n := 8) ha hb
/-- The sum's rows of bits behind n bytes. -/
def crcS (f : Nat → Nat) : Nat → Nat
  | 0 => 4294967295
  | n + 1 => shn 8 (crcS f n ^^^ f n)
def crcN (f : Nat → Nat) (n : Nat) : Nat := 4294967295 ^^^ crcS f n
theorem crcS_lt {f : Nat → Nat} : ∀ n, (∀ j, j < n → f j < 256) → crcS f n < 4294967296
  | 0, _ => by simp [crcS]
  | n + 1, h => shn_lt 8 (Nat.xor_lt_two_pow (n := 32) (crcS_lt n (fun j hj => h j (by omega))) (by have := h n (by omega); omega))
theorem crcN_lt {f : Nat → Nat} {n : Nat} (h : ∀ j, j < n → f j < 256) : crcN f n < 4294967296 := Nat.xor_lt_two_pow (n := 32) (by decide) (crcS_lt n h)
theorem crcN_congr {f g : Nat → Nat} {n : Nat} (h : ∀ j, j < n → f j = g j) : crcN f n = crcN g n := by
  unfold crcN
  congr 1
  induction n with
  | zero => rfl
  | succ n ih => rw [crcS, crcS, ih (fun j hj => h j (by omega)), h n (by omega)]
theorem crc_step (s c : Nat) : (s / 256) ^^^ shn 8 ((s % 256) ^^^ c) = shn 8 (s ^^^ c) := by
  have e : s = (s % 256) ^^^ (s / 256 * 2 ^ 8) := by
    rw [← add_xor (a := s % 256) (k := 8) (s / 256) (by omega)]
    omega
  have : shn 8 (s ^^^ c) = shn 8 ((s / 256 * 2 ^ 8) ^^^ ((s % 256) ^^^ c)) := by
    rw [← Nat.xor_assoc, Nat.xor_comm (s / 256 * 2 ^ 8), ← e]
  rw [this, shn_xor 8 (s / 256 * 2 ^ 8), shn_shl]
end Go.Proofs.Ytmcbmbcfgefocaa
