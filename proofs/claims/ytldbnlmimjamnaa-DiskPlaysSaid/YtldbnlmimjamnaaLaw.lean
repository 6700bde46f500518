/- Laws on make and copy in the words of Mem. Nothing of the program is in here. -/
import Derived.Test.YtldbnlmimjamnaaMem
import Derived.WalkKit
import Derived.WalkSpells
import Derived.Laws.AppendOwnNone
namespace Go.Proofs.Ytldbnlmimjamnaa
open Go.RowKit

theorem wpList_make_row {P : Program} {w : World} {ops : Array Oper} {rest : List Oper} {o : Oper} {a : Act} {Q : Exit → Act → World → Prop}
    (hg : o.guard = none) (l c : Operand) (t : TypeId) (hop : o.op = Op.makeSlice t l c)
    (K : IntKind) (e : TypeId) (h1 : P.underlying t = some (.slice e)) (bytes : Nat) (h2 : (P.info? e).map (fun i => (i.zero, i.size, i.bytes)) = some (some (.int K 0), 1, bytes)) (hby : bytes ≤ 8)
    (kl kc : IntKind) (L C : Int) (n : Nat) (hl : a.eval l = .int kl L) (hc : a.eval c = .int kc C) (hL : L = (n : Int)) (hC : C = (n : Int)) (b2 : n ≤ 17592186044416)
    (hK : ∀ w', Row K e w' w.heap.size n (fun _ => 0) → Below w.heap.size w w' → w'.heap.size = w.heap.size + 1 → wpList P ops Q rest (a.put o.dst (.slice (some ⟨w.heap.size, 0, none⟩) n n)) w') :
    wpList P ops Q (o :: rest) a w := by
  refine wpList_plain hg fun K' hK' => ?_
  obtain ⟨i, hi, hz0, hz1, hz2⟩ := info_parts h2
  have hrun := run_make (P := P) w t e i (.int K 0) h1 hi hz0 kl kc n n (by omega) (by omega) (by rw [hz2]; have : (bytes : Int) * n ≤ 8 * n := Int.mul_le_mul_of_nonneg_right (by omega) (by omega); omega) (by omega)
  subst hL
  subst hC
  unfold Oper.wp
  simp only [Int.toNat_natCast, hz1, Nat.mul_one] at hrun
  have hcells : (Value.int K 0).cells = #[.int K 0] := rfl
  rw [hcells] at hrun
  simp [execOp, hop, hl, hc, hrun, Result.andThen]
  exact hK' _ _ (hK _ (Row.made w n) ((Below.refl _ _).alloc (Nat.le_refl _) _) (by simp))

/-- What a row holds behind a copy of m numbers to place o. -/
def splF (f : Nat → Nat) (o m : Nat) (s : Nat → Nat) : Nat → Nat := fun j => if o ≤ j ∧ j < o + m then s (j - o) else f j

theorem wpList_copy_rd {P : Program} {w : World} {ops : Array Oper} {rest : List Oper} {o : Oper} {a : Act} {Q : Exit → Act → World → Prop} (hgd : o.guard = none) (d s : Operand) (dT sT : TypeId)
    (ho : o.op = .call { callee := .builtin .copy, args := #[d, s], argTypes := #[dT, sT] }) (elem : TypeId) (hu : P.underlying dT = some (.slice elem)) (hsz : (P.info? elem).map (·.size) = some 1)
    (K : IntKind) (g off dLen dCap : Nat) (A : Option Addr) (sLen sCap : Nat) (hd : a.eval d = .slice (some ⟨g, off, none⟩) dLen dCap) (hs : a.eval s = .slice A sLen sCap)
    (t : TypeId) (sz : Nat) (f : Nat → Nat) (hrow : Row K t w g sz f) (fs : Nat → Nat) (m : Nat) (hm : m = Nat.min sLen dLen) (hrd : Rd K w A m fs) (hfit : off + m ≤ sz)
    (h : ∀ w', Row K t w' g sz (splF f off m fs) → Wr g w w' → w'.heap.size = w.heap.size → wpList P ops Q rest (a.put o.dst (.int .i64 (m : Nat))) w') :
    wpList P ops Q (o :: rest) a w := by
  have e0 : ∀ x : Nat, goInt x = .int .i64 (x : Nat) := fun _ => rfl
  by_cases h0 : m = 0
  · refine wpList_copy_nothing hgd d s dT sT ho elem hu hsz (some ⟨g, off, none⟩) A dLen dCap sLen sCap hd hs (by rw [← hm]; exact h0) ?_
    have := h w (hrow.congr fun j _ => by simp only [splF]; rw [if_neg (by omega)]) Wr.refl rfl
    rw [h0] at this
    exact this
  · obtain ⟨ad, rfl, _⟩ := hrd 0 (by omega)
    obtain ⟨cur, hg, hcs, hcell⟩ := hrow
    have hlen : ((List.range m).map (fun j => Value.int K (fs j : Nat))).length = m := by simp
    refine wpList_copy_own hgd d s dT sT ho elem hu hsz g off dLen dCap ad sLen sCap hd hs cur t hg ((List.range m).map (fun j => Value.int K (fs j : Nat))) (by rw [hlen, hm]) ?_ (by rw [hlen, hcs]; exact hfit) ?_ ?_
    · intro j v hv
      have hj : j < m := by
        rcases Nat.lt_or_ge j m with hh | hh
        · exact hh
        · rw [List.getElem?_eq_none (by simpa using hh)] at hv; cases hv
      simp [hj] at hv
      rw [hrd.at_ hj, hv]
    · intro v hv
      simp at hv
      obtain ⟨j, _, rfl⟩ := hv
      rfl
    · rw [hlen]
      have hbl : (w.setRow g ((cur.toList.take off ++ ((List.range m).map (fun j => Value.int K (fs j : Nat)) ++ cur.toList.drop (off + m))).toArray)).heap[g]? = _ := setRow_heap w g cur _ t _ hg
      refine h _ ⟨_, hbl, ?_, ?_⟩ ⟨rfl, rfl, rfl, by simp, fun k _ hne => setRow_other w g k _ (fun e => hne (by rw [e]))⟩ (by simp)
      · simp [hcs]; omega
      · intro j hj
        have hcl : cur.toList.length = sz := by simp [hcs]
        simp only [List.getElem?_toArray, splF]
        by_cases h1 : j < off
        · rw [if_neg (by omega), List.getElem?_append_left (by simp [hcs]; omega), List.getElem?_take, if_pos h1, Array.getElem?_toList]
          exact hcell j hj
        · rw [List.getElem?_append_right (by simp; omega)]
          have hl1 : (List.take off cur.toList).length = off := by simp [hcs]; omega
          rw [hl1]
          by_cases h2 : j < off + m
          · rw [if_pos ⟨by omega, h2⟩, List.getElem?_append_left (by simp; omega)]
            rw [List.getElem?_map, List.getElem?_range (by omega)]
            rfl
          · rw [if_neg (by omega), List.getElem?_append_right (by simp; omega), hlen, List.getElem?_drop, Array.getElem?_toList]
            rw [show off + m + (j - off - m) = j from by omega]
            exact hcell j hj

/-- A slice of the call's own: nil, or at the head of a block of its own from number base on. -/
def Own (K : IntKind) (t : TypeId) (w : World) (base : Nat) (v : Value) (n : Nat) (f : Nat → Nat) : Prop :=
  w.ownsRow base t 1 v n ((List.range n).map fun j => Value.int K (f j : Nat))

section
variable {K : IntKind} {t : TypeId} {w w' : World} {base n : Nat} {v : Value} {f : Nat → Nat}
theorem Own.nil : Own K t w base (.slice none 0 0) 0 f := World.ownsRow_nil w base t 1
theorem Own.congr {f' : Nat → Nat} (h : Own K t w base v n f) (he : ∀ j, j < n → f j = f' j) : Own K t w base v n f' := by
  unfold Own at *
  have e : ((List.range n).map fun j => Value.int K (f j : Nat)) = (List.range n).map fun j => Value.int K (f' j : Nat) := List.map_congr_left fun j hj => by rw [he j (by simpa using hj)]
  rw [← e]
  exact h
theorem Own.form (h : Own K t w base v n f) : (v = .slice none 0 0 ∧ n = 0) ∨ ∃ g c, v = .slice (some ⟨g, 0, none⟩) n c ∧ base ≤ g ∧ n ≤ c := by
  rcases h.2 with h | ⟨g, c, cur, rfl, hb, _, hc, _⟩
  · exact .inl h
  · exact .inr ⟨g, c, rfl, hb, hc⟩
theorem Own.rd_ {A : Option Addr} {c : Nat} (h : Own K t w base (.slice A n c) n f) : Rd K w A n f := fun j hj => by
  rcases h.form with ⟨_, h0⟩ | ⟨g, c', hv, _⟩
  · omega
  · injection hv with hA _ hc
    subst hA
    refine ⟨_, rfl, ?_⟩
    rw [add_mk, Nat.zero_add]
    have := World.ownsRow.cellAt (g := g) (cap := c) h j (by omega)
    rw [this]
    simp [hj]
theorem Own.mono {base' : Nat} (h : Own K t w base v n f) (hb : base' ≤ base) : Own K t w base' v n f := by
  refine ⟨h.1, ?_⟩
  rcases h.2 with hn | ⟨g, c, cur, hv, hg, r⟩
  · exact .inl hn
  · exact .inr ⟨g, c, cur, hv, by omega, r⟩
theorem Own.keep {B : Nat} (h : Own K t w base v n f) (hb : Below B w w') (hB : ∀ g, v.ownBlock = some g → g < B) : Own K t w' base v n f := by
  refine ⟨h.1, ?_⟩
  rcases h.2 with hn | ⟨g, c, cur, rfl, hg, hh, r⟩
  · exact .inl hn
  · exact .inr ⟨g, c, cur, rfl, hg, (hb.block g (hB g rfl)).trans hh, r⟩
theorem Own.below (h : Own K t w base v n f) (hb : Below w.heap.size w w') : Own K t w' base v n f := h.keep hb fun g hg => (World.ownsRow.lt h g hg).2
theorem Own.alloc (h : Own K t w base v n f) (o : Obj) : Own K t (w.alloc o) base v n f := World.ownsRow.alloc h o
theorem Own.frozen {g c : Nat} (h : Own K t w base (.slice (some ⟨g, 0, none⟩) n c) n f) (j : Nat) : w.frozen? ⟨g, j, none⟩ = false := World.ownsRow.frozenAt h j
theorem map_set (f : Nat → Nat) (n j x : Nat) : ((List.range n).map fun i => Value.int K (f i : Nat)).set j (.int K (x : Nat)) = (List.range n).map fun i => Value.int K (upd f j x i : Nat) := by
  apply List.ext_getElem?
  intro i
  by_cases hij : i = j
  · subst hij
    by_cases hi : i < n
    · simp [hi, upd]
    · simp [hi]
  · rw [List.getElem?_set_ne (fun e => hij e.symm)]
    by_cases hi : i < n
    · simp [upd, hij, hi]
    · simp [hi]
theorem Own.set_ {g c : Nat} (h : Own K t w base (.slice (some ⟨g, 0, none⟩) n c) n f) (j x : Nat) : Own K t (w.setCell ⟨g, j, none⟩ (.int K (x : Nat))) base (.slice (some ⟨g, 0, none⟩) n c) n (upd f j x) := by
  have := (World.ownsRow.stored h j (.int K (x : Nat))).1
  rw [map_set] at this
  exact this
end

/-- What stands behind an append. -/
def appF (f : Nat → Nat) (n : Nat) (g : Nat → Nat) : Nat → Nat := fun j => if j < n then f j else g (j - n)
theorem map_app {K : IntKind} (f : Nat → Nat) (n m : Nat) (g : Nat → Nat) :
    ((List.range n).map fun j => Value.int K (f j : Nat)) ++ ((List.range m).map fun j => Value.int K (g j : Nat)) = (List.range (n + m)).map fun j => Value.int K (appF f n g j : Nat) := by
  apply List.ext_getElem?
  intro i
  by_cases hi : i < n
  · rw [List.getElem?_append_left (by simpa using hi)]
    simp [hi, appF, show i < n + m from by omega]
  · rw [List.getElem?_append_right (by simpa using hi)]
    by_cases hm : i < n + m
    · simp [hi, hm, appF, show i - n < m from by omega]
    · simp [hm, show ¬ i - n < m from by omega]

theorem wpList_app {P : Program} {w : World} {ops : Array Oper} {rest : List Oper} {o : Oper} {a : Act} {Q : Exit → Act → World → Prop} (hgd : o.guard = none) (s x : Operand) (t : TypeId)
    (ho : o.op = .call { callee := .builtin .append, args := #[s, x], argTypes := #[t, t] })
    (K : IntKind) (e : TypeId) (ht : P.underlying t = some (.slice e)) (bytes : Nat) (hinfo : (P.info? e).map (fun i => (i.zero, i.size, i.bytes)) = some (some (.int K 0), 1, bytes)) (hby : bytes ≤ 8)
    (base : Nat) (v : Value) (n : Nat) (f : Nat → Nat) (hs : a.eval s = v) (hown : Own K e w base v n f)
    (A : Option Addr) (m c : Nat) (g : Nat → Nat) (hx : a.eval x = .slice A m c) (hr : Rd K w A m g) (hA : A = none → m = 0 ∧ c = 0)
    (hnm : n + m ≤ 17592186044416) (hbase : base ≤ w.heap.size)
    (h : ∀ v' w', Own K e w' base v' (n + m) (appF f n g) → Below base w w' → w.heap.size ≤ w'.heap.size → wpList P ops Q rest (a.put o.dst v') w') : wpList P ops Q (o :: rest) a w := by
  obtain ⟨i, hi, hz0, hz1, hz2⟩ := info_parts hinfo
  rcases A with _ | ad
  · obtain ⟨rfl, rfl⟩ := hA rfl
    refine wpList_append_own_none hgd s x t ho base e i 1 ht hi v n _ hs hown hx ?_
    exact h v w (hown.congr fun j hj => by simp [appF, hj]) (Below.refl _ _) (Nat.le_refl _)
  · have hb : (n + m) * bytes ≤ 140737488355328 := by
      have : (n + m) * bytes ≤ 17592186044416 * 8 := Nat.mul_le_mul hnm hby
      omega
    refine wpList_append_own w hgd s x t ho base e i (.int K 0) 1 bytes ht hi hz0 hz1 hz2 rfl (by omega) v n _ hs hown ad m c ((List.range m).map fun j => Value.int K (g j : Nat)) hx (by simp) ?_ ?_ (by simp only [maxLen]; omega) hb hbase ?_
    · intro j u hu
      have hj : j < m := by
        rcases Nat.lt_or_ge j m with hh | hh
        · exact hh
        · rw [List.getElem?_eq_none (by simpa using hh)] at hu; cases hu
      simp [hj] at hu
      rw [hr.at_ hj, hu]
    · intro u hu
      simp at hu
      obtain ⟨j, _, rfl⟩ := hu
      rfl
    · intro v' w' h2 h3 _
      rw [map_app] at h2
      exact h v' w' h2 ((Below.refl _ _).grown h3 hbase fun k hk => (World.ownsRow.lt hown k hk).1) h3.size

theorem wpList_make_cap {P : Program} {w : World} {ops : Array Oper} {rest : List Oper} {o : Oper} {a : Act} {Q : Exit → Act → World → Prop}
    (hg : o.guard = none) (l c : Operand) (t : TypeId) (hop : o.op = Op.makeSlice t l c)
    (K : IntKind) (e : TypeId) (h1 : P.underlying t = some (.slice e)) (bytes : Nat) (h2 : (P.info? e).map (fun i => (i.zero, i.size, i.bytes)) = some (some (.int K 0), 1, bytes)) (hby : bytes ≤ 8)
    (kl kc : IntKind) (C : Int) (n : Nat) (hl : a.eval l = .int kl 0) (hc : a.eval c = .int kc C) (hC : C = (n : Int)) (b2 : n ≤ 17592186044416) (f : Nat → Nat)
    (hK : ∀ w', Own K e w' w.heap.size (.slice (some ⟨w.heap.size, 0, none⟩) 0 n) 0 f → Below w.heap.size w w' → w.heap.size ≤ w'.heap.size → wpList P ops Q rest (a.put o.dst (.slice (some ⟨w.heap.size, 0, none⟩) 0 n)) w') :
    wpList P ops Q (o :: rest) a w := by
  obtain ⟨i, hi, hz0, hz1, hz2⟩ := info_parts h2
  refine wpList_make_own w hg l c t hop w.heap.size e i (.int K 0) 1 h1 hi hz0 hz1 kl kc C n hl hc hC ?_ (by simp only [maxLen]; omega) (Nat.le_refl _) ?_
  · rw [hz2]
    have : bytes * n ≤ 8 * 17592186044416 := Nat.mul_le_mul hby b2
    omega
  · intro w' h3 h4
    exact hK w' h3 ((Below.refl _ _).grown h4 (Nat.le_refl _) fun k hk => by cases hk) h4.size
end Go.Proofs.Ytldbnlmimjamnaa
