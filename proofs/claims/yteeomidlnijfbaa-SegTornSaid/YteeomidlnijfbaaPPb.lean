/- Lists of rows of bytes in blocks that are ours. -/
import Derived.Test.YteeomidlnijfbaaPNx
namespace Go.Proofs.Yteeomidlnijfbaa
open Go.RowKit
set_option linter.unusedSimpArgs false
set_option linter.unusedVariables false

/-- A list of rows of bytes, it and its rows in blocks of G. -/
def ListG (G : Nat → Prop) (w : World) (base : Nat) (v : Value) (rs : List Rec) : Prop :=
  ∃ vs : List Value, w.ownsRow base 35 1 v rs.length vs ∧ (∀ k, v.ownBlock = some k → G k) ∧ ∀ (i : Nat) (r : Rec), rs[i]? = some r → ∃ u, vs[i]? = some u ∧ Byt w u r.1 r.2 ∧ Typ8 w u ∧ r.1 ≤ 1000000 ∧ ∀ k, u.ownBlock = some k → G k
theorem byt_kept {G : Nat → Prop} {w w' : World} {u : Value} {n : Nat} {f : Nat → Nat} (h : Byt w u n f) (ht : Typ8 w u) (hg : ∀ k, u.ownBlock = some k → G k) (hk : ∀ k, G k → k < w.heap.size → w'.heap[k]? = w.heap[k]?) : Byt w' u n f ∧ Typ8 w' u := by
  obtain ⟨A, c, rfl, hc, hr, hf⟩ := h
  refine ⟨⟨A, c, rfl, hc, fun j hj => ?_, hf⟩, fun k e => ?_⟩
  · obtain ⟨ad, e, hcell⟩ := hr j hj
    have hlt := block_lt_of_cell hcell
    rw [add_block] at hlt
    refine ⟨ad, e, (World.cell?_of_block ?_).trans hcell⟩
    rw [add_block]
    exact hk _ (hg _ (by rw [e]; rfl)) hlt
  · obtain ⟨cs, m, h⟩ := ht k e
    exact ⟨cs, m, (hk k (hg k e) (Array.getElem?_eq_some_iff.1 h).1).trans h⟩
section
variable {G G' : Nat → Prop} {w w' : World} {base : Nat} {v v' : Value} {rs : List Rec}
theorem ListG.nil : ListG G w base (.slice none 0 0) [] := ⟨[], ⟨rfl, .inl ⟨rfl, rfl⟩⟩, (fun k h => by cases h), (fun i r h => by simp at h)⟩
theorem ListG.keep (h : ListG G w base v rs) (hk : ∀ k, G k → k < w.heap.size → w'.heap[k]? = w.heap[k]?) : ListG G w' base v rs := by
  obtain ⟨vs, h1, h2, h3⟩ := h
  refine ⟨vs, ⟨h1.1, ?_⟩, h2, fun i r hi => ?_⟩
  · rcases h1.2 with hn | ⟨g, c, cur, rfl, a1, a2, r⟩
    · exact .inl hn
    · exact .inr ⟨g, c, cur, rfl, a1, (hk g (h2 g rfl) (Array.getElem?_eq_some_iff.1 a2).1).trans a2, r⟩
  · obtain ⟨u, hu, hb, ht, hl, hg⟩ := h3 i r hi
    obtain ⟨hb', ht'⟩ := byt_kept hb ht hg hk
    exact ⟨u, hu, hb', ht', hl, hg⟩
theorem ListG.kept (h : ListG G w base v rs) (hk : Kept G w w') : ListG G w' base v rs := h.keep fun k hg _ => hk.1 k hg
theorem ListG.below (h : ListG G w base v rs) (hb : Below w.heap.size w w') : ListG G w' base v rs := h.keep fun k _ hl => hb.block k hl
theorem ListG.mono (h : ListG G w base v rs) (hg : ∀ k, G k → G' k) : ListG G' w base v rs := by
  obtain ⟨vs, h1, h2, h3⟩ := h
  refine ⟨vs, h1, fun k e => hg k (h2 k e), fun i r hi => ?_⟩
  obtain ⟨u, hu, hb, ht, hl, hg'⟩ := h3 i r hi
  exact ⟨u, hu, hb, ht, hl, fun k e => hg k (hg' k e)⟩
theorem ListG.form (h : ListG G w base v rs) : ∃ A c, v = .slice A rs.length c := by
  obtain ⟨vs, h1, h2, h3⟩ := h
  rcases h1.2 with ⟨e, h0⟩ | ⟨g, c, cur, e, _⟩
  · exact ⟨none, 0, by rw [e, h0]⟩
  · exact ⟨_, c, e⟩
theorem ListG.by_ (h : ListG G w base v rs) : RowsBy w v rs := by
  obtain ⟨vs, h1, h2, h3⟩ := h
  rcases h1.2 with ⟨e, h0⟩ | ⟨g, c, cur, e, _⟩
  · refine ⟨none, 0, by rw [e, h0], fun i r hi => ?_⟩
    have hlt : i < rs.length := (List.getElem?_eq_some_iff.1 hi).1
    omega
  · refine ⟨_, c, e, fun i r hi => ?_⟩
    obtain ⟨u, hu, hb, ht, hl, hg⟩ := h3 i r hi
    have h1' := h1
    rw [e] at h1'
    exact ⟨_, u, rfl, h1'.cells rfl i u hu, hb, by omega⟩
/-- A row is appended. -/
theorem ListG.snoc {vs : List Value} {u : Value} {r : Rec} (h1 : w.ownsRow base 35 1 v rs.length vs) (h2 : ∀ k, v.ownBlock = some k → G k) (h3 : ∀ (i : Nat) (r : Rec), rs[i]? = some r → ∃ u, vs[i]? = some u ∧ Byt w u r.1 r.2 ∧ Typ8 w u ∧ r.1 ≤ 1000000 ∧ ∀ k, u.ownBlock = some k → G k)
    (hb : Byt w u r.1 r.2) (ht : Typ8 w u) (hl : r.1 ≤ 1000000) (hg : ∀ k, u.ownBlock = some k → G k)
    (hown : w'.ownsRow base 35 1 v' (rs.length + 1) (vs ++ [u])) (hgr : w.grownBy w' v.ownBlock) (hat : v'.ownBlock = v.ownBlock ∨ v'.ownBlock = some w.heap.size) (hG : ∀ k, G k → G' k) (hN : w.heap.size < w'.heap.size → G' w.heap.size) : ListG G' w' base v' (rs ++ [r]) := by
  have key : ∀ (u : Value) (r : Rec), Byt w u r.1 r.2 → Typ8 w u → Byt w' u r.1 r.2 ∧ Typ8 w' u := fun u r hb ht => by
    refine byt_kept (G := fun k => u.ownBlock = some k) hb ht (fun k e => e) fun k e hlt => hgr.block k hlt fun e' => ?_
    obtain ⟨cs, m, h⟩ := ht k e
    rcases h1.2 with ⟨e1, _⟩ | ⟨g, c, cur, e1, _, hgb, _⟩
    · rw [e1] at e'
      cases e'
    · rw [e1] at e'
      have : k = g := by simpa [Value.ownBlock] using e'
      subst this
      rw [h] at hgb
      injection hgb with hgb
      injection hgb with _ ht2
      exact absurd ht2 (by decide)
  have hvl : vs.length = rs.length := by have := h1.1; simpa using this
  refine ⟨vs ++ [u], by rw [List.length_append]; exact hown, fun k e => ?_, fun i r' hi => ?_⟩
  · rcases hat with e' | e'
    · exact hG k (h2 k (e' ▸ e))
    · rw [e'] at e
      injection e with e
      subst e
      refine hN ?_
      rcases hown.2 with ⟨e1, _⟩ | ⟨g, c, cur, e1, _, hgb, _⟩
      · rw [e1] at e'; cases e'
      · rw [e1] at e'
        have : g = w.heap.size := by simpa [Value.ownBlock] using e'
        subst this
        exact (Array.getElem?_eq_some_iff.1 hgb).1
  · by_cases hlt : i < rs.length
    · rw [List.getElem?_append_left hlt] at hi
      obtain ⟨u', a1, a2, a3, a4, a5⟩ := h3 i r' hi
      obtain ⟨a6, a7⟩ := key u' r' a2 a3
      exact ⟨u', by rw [List.getElem?_append_left (by omega)]; exact a1, a6, a7, a4, fun k e => hG k (a5 k e)⟩
    · have hil := (List.getElem?_eq_some_iff.1 hi).1
      simp at hil
      obtain rfl : i = rs.length := by omega
      simp at hi
      subst hi
      obtain ⟨a6, a7⟩ := key u r hb ht
      exact ⟨u, by rw [← hvl]; simp, a6, a7, hl, fun k e => hG k (hg k e)⟩
end
/-- What turns when a list of ours grows. -/
theorem only_grown {G : Nat → Prop} {w w' : World} {v : Value} (hgr : w.grownBy w' v.ownBlock) (h2 : ∀ k, v.ownBlock = some k → G k) : Only G w w' := (Only.refl (F := G) (w := w)).grown hgr fun k e => .inl (h2 k e)
end Go.Proofs.Yteeomidlnijfbaa

/- SegFills: what its round needs. -/
namespace Go.Proofs.Yteeomidlnijfbaa
open Go.RowKit
set_option linter.unusedSimpArgs false
set_option linter.unusedVariables false

/-- A row of zeros, but for its first byte. -/
def rowZ (x : Nat) : Nat → Nat := fun j => if j = 0 then x else 0
theorem row_made {w : World} {g n x : Nat} (h : w.rowIs g 5 n fun _ => .int .u8 0) (hn : 1 ≤ n) (hx : x < 256) :
    Byt (w.setCell ⟨g, 0, none⟩ (.int .u8 (x : Nat))) (.slice (some ⟨g, 0, none⟩) n n) n (rowZ x) ∧ Typ8 (w.setCell ⟨g, 0, none⟩ (.int .u8 (x : Nat))) (.slice (some ⟨g, 0, none⟩) n n) := by
  have h2 := h.set 0 (.int .u8 (x : Nat))
  refine ⟨⟨_, n, rfl, Nat.le_refl _, fun j hj => ⟨_, rfl, ?_⟩, fun j hj => by unfold rowZ; split <;> omega⟩, fun k hk => ?_⟩
  · rw [add_mk, Nat.zero_add, h2.cell hj]
    by_cases e : j = 0
    · subst e
      simp [rowZ]
    · simp [rowZ, e]
  · obtain ⟨cs, hh, _⟩ := h2
    have : g = k := by simpa [Value.ownBlock] using hk
    subst this
    exact ⟨cs, _, hh⟩
theorem need_pos {n : Nat} (h1 : 1 ≤ n) (h2 : n ≤ 392) : needF n ≠ 0 ∧ needF n ≤ 8 := by unfold needF; rw [if_neg (by omega)]; omega
/-- A row is appended to a list of ours: what the append needs, and what is behind it. -/
def AppFits (w w8 : World) (lb : Nat) (v row : Value) (m : Nat) (R : Value → World → Prop) : Prop :=
  ∃ vs, w8.ownsRow w.heap.size 35 1 v m vs ∧ (∀ (j : Nat) (u : Value), [row][j]? = some u → w8.cell? ((⟨lb, 0, none⟩ : Addr).add j) = some u) ∧ (∀ u ∈ [row], u.oneCell' = true) ∧ w.heap.size ≤ w8.heap.size ∧ ∀ v' w', w'.ownsRow w.heap.size 35 1 v' (m + 1) (vs ++ [row]) → w8.grownBy w' v.ownBlock → (v'.ownBlock = v.ownBlock ∨ v'.ownBlock = some w8.heap.size) → R v' w'
end Go.Proofs.Yteeomidlnijfbaa

/- What a scan finds where of the cells that were being written some are there, and some not; by the sectors alone. -/
namespace Go.Proofs.Yteeomidlnijfbaa
open Go.RowKit
set_option linter.unusedSimpArgs false
set_option linter.unusedVariables false

section
variable {T T0 : Nat → Option (Nat → Nat)} {b gen top e m : Nat} {R : Nat → RowD}
/-- A record's cell is there. -/
def NewC (T : Nat → Option (Nat → Nat)) (gen top e : Nat) (R : Nat → RowD) (i k : Nat) : Prop := ∃ x, T (e + sumN R i + k) = some (secX x) ∧ PartOf gen (top + 1 + i) (R i).n (R i).f k x
/-- Each of the cells that were being written is there, or what was there, or torn; all else is as it was, or, behind them, torn. -/
structure MixAt (T T0 : Nat → Option (Nat → Nat)) (gen top e : Nat) (R : Nat → RowD) (m : Nat) : Prop where
  mid : ∀ i k, i < m → k < needF (R i).n → NewC T gen top e R i k ∨ T (e + sumN R i + k) = T0 (e + sumN R i + k) ∨ T (e + sumN R i + k) = none
  front : ∀ j, j < e → T j = T0 j
  back : ∀ j, e + sumN R m ≤ j → T j = T0 j ∨ T j = none
/-- So many of the records are there, whole, and the next one isn't. -/
def Whole (T : Nat → Option (Nat → Nat)) (gen top e : Nat) (R : Nat → RowD) (m n : Nat) : Prop := n ≤ m ∧ (∀ i k, i < n → k < needF (R i).n → NewC T gen top e R i k) ∧ (n < m → ∃ k, k < needF (R n).n ∧ ¬ NewC T gen top e R n k)
theorem NewC.cell {i k : Nat} (h : NewC T gen top e R i k) (hk : k < needF (R i).n) (hg : gen < 4294967296) (hs : top + 1 + i < 4294967296) (hf : ∀ j, j < (R i).n → (R i).f j < 256) : cellB (T (e + sumN R i + k)) = true ∧ PartOf gen (top + 1 + i) (R i).n (R i).f k (cellX (T (e + sumN R i + k))) := by
  obtain ⟨x, hx, hp⟩ := h
  rw [hx]
  exact dec_part hp hk hg hs hf
/-- Where a cell lies among those of records. -/
theorem sum_split (R : Nat → RowD) : ∀ m j, j < sumN R m → ∃ i k, i < m ∧ k < needF (R i).n ∧ j = sumN R i + k
  | 0, j, h => absurd h (Nat.not_lt_zero _)
  | m + 1, j, h => by
    by_cases hh : j < sumN R m
    · obtain ⟨i, k, h1, h2, h3⟩ := sum_split R m j hh
      exact ⟨i, k, by omega, h2, h3⟩
    · have : sumN R (m + 1) = sumN R m + needF (R m).n := rfl
      exact ⟨m, j - sumN R m, by omega, by omega, by omega⟩
theorem mix_most {first : Nat} (hm : MixAt T T0 gen top e R m) (hg : gen < 4294967296) (ht : top + m < 4294967296) (hf : ∀ i, i < m → ∀ j, j < (R i).n → (R i).f j < 256) (h0 : Most T0 first b top) : Most T first b (top + m) := fun k h1 h2 h3 => by
  have old : T k = T0 k ∨ T k = none → (cellX (T k)).s ≤ top + m := fun h => by
    rcases h with h | h
    · rw [h] at h3 ⊢
      exact Nat.le_trans (h0 k h1 h2 h3) (Nat.le_add_right _ _)
    · rw [h] at h3
      cases h3
  by_cases hk : k < e
  · exact old (.inl (hm.front k hk))
  · by_cases hk2 : e + sumN R m ≤ k
    · exact old (hm.back k hk2)
    · obtain ⟨i, j, hi, hj, hkj⟩ := sum_split R m (k - e) (by omega)
      obtain rfl : k = e + sumN R i + j := by omega
      rcases hm.mid i j hi hj with h | h
      · have := (h.cell hj hg (by omega) (hf i hi)).2.2.1
        omega
      · exact old h
/-- Nothing begins where the records that are there end. -/
theorem mix_stop {first l0 n : Nat} (hm : MixAt T T0 gen top e R m) (hg : gen < 4294967296) (ht : top + m < 4294967296) (hz : ∀ i, i < m → needF (R i).n ≠ 0) (hf : ∀ i, i < m → ∀ j, j < (R i).n → (R i).f j < 256) (h0 : Most T0 first b top) (hfe : first ≤ e) (hl : l0 ≤ top) (hend : ∀ q, ¬ recP T0 b gen e l0 q) (hw : Whole T gen top e R m n) :
    ∀ q, ¬ recP T b gen (e + sumN R n) (if n = 0 then l0 else top + n) q := fun q hq => by
  obtain ⟨w1, w2, w3⟩ := hw
  have hp := hq.pos
  obtain ⟨q1, q2, q3, q4, q5⟩ := hq
  have hc0 := q2 0 hp
  have e0 : (fun k => cellX (T (e + sumN R n + k))) 0 = cellX (T (e + sumN R n)) := rfl
  -- an old cell here
  have old : ∀ j, j < q → (T (e + sumN R n + j) = T0 (e + sumN R n + j) ∨ T (e + sumN R n + j) = none) → T (e + sumN R n + j) = T0 (e + sumN R n + j) ∧ (cellX (T (e + sumN R n + j))).s ≤ top := fun j hj h => by
    have h2 := q2 j hj
    rcases h with h | h
    · rw [h] at h2
      exact ⟨h, by rw [h]; exact h0 _ (by omega) (by omega) h2⟩
    · rw [h] at h2
      cases h2
  have same : ∀ j, j < q → (cellX (T (e + sumN R n + j))).s = (cellX (T (e + sumN R n))).s := fun j hj => (q3.2 j hj).2.2.2.2
  have alien : (T (e + sumN R n + 0) = T0 (e + sumN R n + 0) ∨ T (e + sumN R n + 0) = none) → False := fun h => by
    obtain ⟨h1, h2⟩ := old 0 hp h
    have h2 : (cellX (T (e + sumN R n))).s ≤ top := h2
    by_cases hn : n = 0
    · subst hn
      rw [if_pos rfl] at q5
      have es : sumN R 0 = 0 := rfl
      have hall : ∀ j, j < q → T (e + j) = T0 (e + j) := fun j hj => by
        have hs := same j hj
        rw [es] at hs h2
        by_cases hjm : j < sumN R m
        · obtain ⟨i, k, hi, hk, rfl⟩ := sum_split R m j hjm
          rcases hm.mid i k hi hk with hn | ho
          · have := (hn.cell hk hg (by omega) (hf i hi)).2.2.1
            rw [Nat.add_assoc] at this
            rw [Nat.add_zero] at hs h2
            omega
          · rw [Nat.add_assoc] at ho
            exact (old (sumN R i + k) hj (by rw [es, Nat.add_zero]; exact ho)).1
        · exact (old j hj (by rw [es, Nat.add_zero]; exact hm.back (e + j) (by omega))).1
      refine hend q ?_
      have ee : ∀ k, k < q → cellX (T (e + k)) = cellX (T0 (e + k)) := fun k hk => by rw [hall k hk]
      have ez : T e = T0 e := hall 0 hp
      rw [es] at q1 q2 q3 q4 q5
      simp only [Nat.add_zero] at q1 q2 q3 q4 q5
      refine ⟨q1, fun k hk => by rw [← hall k hk]; exact q2 k hk, ⟨hp, fun k hk => ?_⟩, by rw [← ez]; exact q4, by rw [← ez]; exact q5⟩
      have hj := q3.2 k hk
      unfold joinB at hj ⊢
      have e1 := ee k hk
      have e2 := ee 0 hp
      simp only [e1, e2] at hj
      exact hj
    · rw [if_neg hn] at q5
      omega
  by_cases hn : n < m
  · rcases hm.mid n 0 hn (by have := hz n hn; omega) with h | h
    · obtain ⟨c1, c2⟩ := h.cell (by have := hz n hn; omega) hg (by omega) (hf n hn)
      have hx : (cellX (T (e + sumN R n))).s = top + 1 + n := c2.2.1
      have hqq : q = needF (R n).n := by
        have h1 := (q3.2 0 hp).2.2.1
        have h2 : (cellX (T (e + sumN R n + 0))).q = (needF (R n).n : Nat) := c2.2.2.2.1
        have h3 : (cellX (T (e + sumN R n + 0))).q = (q : Nat) := h1
        omega
      obtain ⟨k, hk, hno⟩ := w3 hn
      rcases hm.mid n k hn hk with h | h
      · exact hno h
      · have h1 := (old k (by omega) h).2
        have h2 := same k (by omega)
        omega
    · exact alien h
  · obtain rfl : n = m := by omega
    exact alien (hm.back _ (by omega))
theorem scn_first {n l0 : Nat} (hz : ∀ i, i < n → needF (R i).n ≠ 0) (hf : ∀ i, i < n → ∀ j, j < (R i).n → (R i).f j < 256) (hg : gen < 4294967296) (ht : top + n < 4294967296) (h : NewAt T gen top e R n) (hb : e + sumN R n ≤ b) (hl : l0 ≤ top) (hst : ∀ q, ¬ recP T b gen (e + sumN R n) (if n = 0 then l0 else top + n) q) :
    ∀ (m i : Nat), i + m = n → ∃ rs, SameL ((List.range' i m).map fun i => ((R i).n, (R i).f)) rs ∧ Scn T b gen (e + sumN R i) (if i = 0 then l0 else top + i) rs (e + sumN R n) (if n = 0 then l0 else top + n)
  | 0, i, hi => by
    obtain rfl : i = n := by omega
    exact ⟨[], trivial, .stop hst⟩
  | m + 1, i, hi => by
    have hb' : e + sumN R (i + 1) ≤ b := Nat.le_trans (Nat.add_le_add_left (sumN_mono R (by omega)) _) hb
    obtain ⟨a1, a2, a3⟩ := new_rec hz hf hg ht h (by omega) hb' (last := if i = 0 then l0 else top + i) (by split <;> omega)
    obtain ⟨rs, hs, hk⟩ := scn_first hz hf hg ht h hb hl hst m (i + 1) (by omega)
    refine ⟨_ :: rs, ⟨a2, hs⟩, .more a1 ?_⟩
    rw [a3, show e + sumN R i + needF (R i).n = e + sumN R (i + 1) from by show _ = e + (sumN R i + _); omega]
    rw [if_neg (by omega)] at hk
    exact hk
/-- What is scanned: what was there ahead, and the first of the records. -/
theorem mix_scan {first l0 n : Nat} {rs : List Rec} (hm : MixAt T T0 gen top e R m) (hg : gen < 4294967296) (ht : top + m < 4294967296) (hz : ∀ i, i < m → needF (R i).n ≠ 0) (hf : ∀ i, i < m → ∀ j, j < (R i).n → (R i).f j < 256) (h0 : Most T0 first b top) (hfe : first ≤ e) (hb : e + sumN R m ≤ b) (hl : l0 ≤ top) (hs : Scn T0 b gen first 0 rs e l0) (hw : Whole T gen top e R m n) :
    ∃ rs', SameL (rs ++ recsOf R n) rs' ∧ Scn T b gen first 0 rs' (e + sumN R n) (if n = 0 then l0 else top + n) := by
  have hst := mix_stop hm hg ht hz hf h0 hfe hl hs.ends hw
  obtain ⟨w1, w2, w3⟩ := hw
  have hsm : sumN R n ≤ sumN R m := sumN_mono R w1
  obtain ⟨rs1, h1, h2⟩ := scn_first (l0 := l0) (fun i hi => hz i (by omega)) (fun i hi => hf i (by omega)) hg (by omega) (fun i k hi hk => w2 i k hi hk) (by omega) hl hst n 0 (by omega)
  obtain ⟨rs0, h3, h4⟩ := hs.front (by omega) (fun k _ hk => (hm.front k hk).symm) h2
  refine ⟨rs0 ++ rs1, h3.app ?_, h4⟩
  unfold recsOf
  rw [List.range_eq_range']
  exact h1
end
end Go.Proofs.Yteeomidlnijfbaa

/- A sector torn: what is scanned, and what is added then. -/
namespace Go.Proofs.Yteeomidlnijfbaa
open Go.RowKit
set_option linter.unusedSimpArgs false
set_option linter.unusedVariables false

theorem rdS_still {S : DS} (hg : S.gone = false) (hP : S.P = []) (j : Nat) : rdS S j = if j < S.n then S.T j else none := by
  have hs : S.seen j = S.T j := by unfold DS.seen; rw [hP]; rfl
  unfold rdS DS.read
  rw [hg]
  simp only [Bool.false_eq_true, if_false, Int.toNat_natCast]
  by_cases h : j < S.n
  · rw [show hasB S.n (j : Int) = true from by simp [hasB, h], if_pos h]
    simp only [if_true]
    rw [hs]
    cases S.T j <;> rfl
  · rw [show hasB S.n (j : Int) = false from by simp [hasB]; omega, if_neg h]
    rfl
/-- The sectors behind an Add that was told OK. -/
theorem AddS.newAt {S S' : DS} {Q Q' : QS} {n : Nat} {R : Nat → RowD} {k : Int} (ha : AddS S Q n R S' Q' k) (hk : k = 0) :
    NewAt (rdS S') Q.gen Q.top Q.ende R n ∧ ∀ j, j < Q.ende ∨ Q.ende + sumN R n ≤ j → rdS S' j = rdS S j := by
  cases ha with
  | no ht => exact absurd hk ht
  | gone => cases hk
  | none_ ht hg hn =>
    subst hn
    exact ⟨fun i k hi => absurd hi (by omega), fun _ _ => rfl⟩
  | cut ht hg hn pre x hs hl hc hne => exact absurd hk hne
  | lost ht hg hn xs hs hl hc hne => exact absurd hk hne
  | kept ht hg hn xs hs hl hc h0 =>
    obtain ⟨n1, n2⟩ := new_at hg hc hs hl
    obtain ⟨_, _, f3⟩ := rdS_flush h0
    rw [funext f3]
    exact ⟨n1, n2⟩
/-- What is so of a disk and a segment behind a scan. -/
theorem calm_at {S : DS} {Q : QS} {rs rs' : List Rec} {en l : Nat} (hg : S.gone = false) (hl : S.left = 0) (hP : S.P = []) (hq : Q.first ≤ Q.behind ∧ Q.behind ≤ 1000 ∧ Q.gen < 4294967296) (hn : Q.behind ≤ S.n) (hs : Scn (rdS S) Q.behind Q.gen Q.first 0 rs' en l) (hr : SameL rs rs') (ht : topOf (rdS S) Q.first (Q.behind - Q.first) < 4294967296) :
    Calm S { Q with ende := en, top := topOf (rdS S) Q.first (Q.behind - Q.first) } rs := by
  obtain ⟨q1, q3, q4⟩ := hq
  have hfb : Q.first + (Q.behind - Q.first) = Q.behind := by omega
  have hm : Most (rdS S) Q.first Q.behind (topOf (rdS S) Q.first (Q.behind - Q.first)) := by
    have := most_top (rdS S) Q.first (Q.behind - Q.first)
    rw [hfb] at this
    exact this
  have hle := hs.le q1
  refine ⟨hg, hl, hP, ⟨hle.1, hle.2.1, q3, q4, ht⟩, hn, ⟨rs', l, hr, hs, ?_⟩, hm⟩
  rcases hs.last_at with e | ⟨k, k1, k2, k3, k4⟩
  · rw [e]
    exact Nat.zero_le _
  · rw [← k4]
    exact hm k k1 k2 k3
def zeroF : Nat → Nat := fun _ => 0
/-- The disk with a sector torn. -/
theorem torn_disk {S : DS} (hg : S.gone = false) (hl : S.left = 0) (hP : S.P = []) {k : Nat} (hk : k < S.n) (f : Nat → Nat) :
    (S.write (k : Nat) f).2 = 0 ∧ (S.write (k : Nat) f).1.P.length = 1 ∧ ((S.write (k : Nat) f).1.up [2]).gone = false ∧ ((S.write (k : Nat) f).1.up [2]).left = 0 ∧ ((S.write (k : Nat) f).1.up [2]).P = [] ∧ ((S.write (k : Nat) f).1.up [2]).n = S.n ∧ ∀ j, rdS ((S.write (k : Nat) f).1.up [2]) j = if j = k then none else rdS S j := by
  rw [write_calm hg hl hk f]
  have hT : ((S.wrote k f).up [2]).T = setT S.T k none := by
    unfold DS.up DS.wrote
    rw [hP]
    rfl
  refine ⟨rfl, by show (S.P ++ [(k, f)]).length = 1; rw [hP]; rfl, rfl, rfl, rfl, rfl, fun j => ?_⟩
  rw [rdS_still (S := (S.wrote k f).up [2]) rfl rfl j, rdS_still hg hP j, hT]
  show (if j < S.n then setT S.T k none j else none) = _
  unfold setT
  by_cases e : j = k
  · rw [if_pos e, if_pos e]
    split <;> rfl
  · rw [if_neg e, if_neg e]
/-- What is scanned of records of which a sector is torn. -/
theorem torn_scn {S S' S2 : DS} {Q Q' : QS} {m n k : Nat} {R : Nat → RowD} {rs2 : List Rec} {en l : Nat} (hQ : Q = ⟨0, 60, 1, 0, 0⟩) (hc : Calm S Q []) (ha : AddS S Q m R S' Q' 0) (hm20 : m ≤ 20) (hfit : sumN R m ≤ 60) (hz : ∀ i, i < m → needF (R i).n ≠ 0) (hf : ∀ i, i < m → ∀ j, j < (R i).n → (R i).f j < 256)
    (hT : ∀ j, rdS S2 j = if j = k then none else rdS S' j) (hg : S2.gone = false) (hl : S2.left = 0) (hP : S2.P = []) (hn2 : 60 ≤ S2.n) (hk : k < 60) (hnm : n ≤ m) (h1 : sumN R n ≤ k) (h2 : n < m → k < sumN R (n + 1)) (hs : Scn (rdS S2) 60 1 0 0 rs2 en l) :
    SameL (recsOf R n) rs2 ∧ en = sumN R n ∧ topOf (rdS S2) 0 60 ≤ m ∧ Calm S2 ⟨0, 60, 1, en, topOf (rdS S2) 0 60⟩ (recsOf R n) := by
  obtain ⟨rs0, l0, hs0, hsc, hlt⟩ := hc.scn
  have hmo := hc.most
  obtain ⟨na, nb⟩ := ha.newAt rfl
  subst hQ
  have hrs0 : rs0 = [] := by
    cases rs0 with
    | nil => rfl
    | cons _ _ => exact hs0.elim
  subst hrs0
  have hl0 : l0 = 0 := Nat.le_zero.1 hlt
  subst hl0
  have hmix : MixAt (rdS S2) (rdS S) 1 0 0 R m := by
    refine ⟨fun i j hi hj => ?_, fun j hj => absurd hj (by omega), fun j hj => ?_⟩
    · by_cases e : 0 + sumN R i + j = k
      · exact .inr (.inr (by rw [hT, if_pos e]))
      · obtain ⟨x, hx, hp⟩ := na i j hi hj
        exact .inl ⟨x, by rw [hT, if_neg e]; exact hx, hp⟩
    · by_cases e : j = k
      · exact .inr (by rw [hT, if_pos e])
      · exact .inl (by rw [hT, if_neg e]; exact nb j (.inr hj))
  have hw : Whole (rdS S2) 1 0 0 R m n := by
    refine ⟨hnm, fun i j hi hj => ?_, fun hlt => ?_⟩
    · obtain ⟨x, hx, hp⟩ := na i j (by omega) hj
      have hs1 : sumN R (i + 1) = sumN R i + needF (R i).n := rfl
      have hs2 := sumN_mono R (a := i + 1) (b := n) (by omega)
      refine ⟨x, ?_, hp⟩
      rw [hT, if_neg (by omega)]
      exact hx
    · have hs1 : sumN R (n + 1) = sumN R n + needF (R n).n := rfl
      have := h2 hlt
      refine ⟨k - sumN R n, by omega, ?_⟩
      rintro ⟨x, hx, _⟩
      rw [hT, if_pos (by omega)] at hx
      cases hx
  have hmost := mix_most (b := 60) hmix (by decide) (by omega) hf hmo
  obtain ⟨rs', hr, hk'⟩ := mix_scan (b := 60) hmix (by decide) (by omega) hz hf hmo (Nat.le_refl _) (by omega) (Nat.le_refl _) hsc hw
  obtain ⟨rfl, rfl, rfl⟩ := hk'.uniq hs
  rw [List.nil_append] at hr
  rw [Nat.zero_add] at hs hmost ⊢
  have ht : topOf (rdS S2) 0 60 ≤ m := top_most 60 hmost
  exact ⟨hr, rfl, ht, calm_at (Q := ⟨0, 60, 1, 0, 0⟩) hg hl hP ⟨by decide, by decide, by decide⟩ hn2 hs hr (Nat.lt_of_le_of_lt ht (by omega))⟩
end Go.Proofs.Yteeomidlnijfbaa
