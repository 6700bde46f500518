/- What a scan finds where of the cells that were being written some are there, and some not; by the sectors alone. -/
import Derived.Test.YteeomidlnijfbaaPNy
namespace Go.Proofs.Yteeomidlnijfbaa
open Go.RowKit
set_option linter.unusedSimpArgs false
set_option linter.unusedVariables false

section
variable {T T0 : Nat → Option (Nat → Nat)} {b gen top e m : Nat} {R : Nat → RowD}
/-- A record's cell is there. -/
def NewC (T : Nat → Option (Nat → Nat)) (gen top e : Nat) (R : Nat → RowD) (i k : Nat) : Prop := ∃ x, T (e + sumN R i + k) = some (secX x) ∧ PartOf gen (top + 1 + i) (R i).n (R i).f k x
/-- Each of the cells that were being written is there, or what was there, or torn; all else is as it was, or, behind them, torn. -/
structure MixAt (T T0 : Nat → Option (Nat → Nat)) (gen top e : Nat) (R : Nat → RowD) (m : Nat) : Prop where
  mid : ∀ i k, i < m → k < needF (R i).n → NewC T gen top e R i k ∨ T (e + sumN R i + k) = T0 (e + sumN R i + k) ∨ T (e + sumN R i + k) = none
  front : ∀ j, j < e → T j = T0 j
  back : ∀ j, e + sumN R m ≤ j → T j = T0 j ∨ T j = none
/-- So many of the records are there, whole, and the next one isn't. -/
def Whole (T : Nat → Option (Nat → Nat)) (gen top e : Nat) (R : Nat → RowD) (m n : Nat) : Prop := n ≤ m ∧ (∀ i k, i < n → k < needF (R i).n → NewC T gen top e R i k) ∧ (n < m → ∃ k, k < needF (R n).n ∧ ¬ NewC T gen top e R n k)
open Classical in
theorem whole_some (T : Nat → Option (Nat → Nat)) (gen top e : Nat) (R : Nat → RowD) : ∀ m, ∃ n, Whole T gen top e R m n
  | 0 => ⟨0, Nat.le_refl _, fun i k hi => absurd hi (by omega), fun h => absurd h (by omega)⟩
  | m + 1 => by
    obtain ⟨n, h1, h2, h3⟩ := whole_some T gen top e R m
    by_cases hn : n < m
    · exact ⟨n, by omega, h2, fun _ => h3 hn⟩
    · obtain rfl : n = m := by omega
      by_cases ha : ∀ k, k < needF (R n).n → NewC T gen top e R n k
      · exact ⟨n + 1, Nat.le_refl _, fun i k hi hk => by
          by_cases e : i < n
          · exact h2 i k e hk
          · obtain rfl : i = n := by omega
            exact ha k hk, fun h => absurd h (by omega)⟩
      · refine ⟨n, by omega, h2, fun _ => ?_⟩
        apply Classical.byContradiction
        intro hno
        exact ha fun k hk => Classical.byContradiction fun hc => hno ⟨k, hk, hc⟩
theorem NewC.cell {i k : Nat} (h : NewC T gen top e R i k) (hk : k < needF (R i).n) (hg : gen < 4294967296) (hs : top + 1 + i < 4294967296) (hf : ∀ j, j < (R i).n → (R i).f j < 256) : cellB (T (e + sumN R i + k)) = true ∧ PartOf gen (top + 1 + i) (R i).n (R i).f k (cellX (T (e + sumN R i + k))) := by
  obtain ⟨x, hx, hp⟩ := h
  rw [hx]
  exact dec_part hp hk hg hs hf
/-- Where a cell lies among those of records. -/
theorem sum_split (R : Nat → RowD) : ∀ m j, j < sumN R m → ∃ i k, i < m ∧ k < needF (R i).n ∧ j = sumN R i + k
  | 0, j, h => absurd h (Nat.not_lt_zero _)
  | m + 1, j, h => by
    by_cases hh : j < sumN R m
    · obtain ⟨i, k, h1, h2, h3⟩ := sum_split R m j hh
      exact ⟨i, k, by omega, h2, h3⟩
    · have : sumN R (m + 1) = sumN R m + needF (R m).n := rfl
      exact ⟨m, j - sumN R m, by omega, by omega, by omega⟩
theorem mix_most {first : Nat} (hm : MixAt T T0 gen top e R m) (hg : gen < 4294967296) (ht : top + m < 4294967296) (hf : ∀ i, i < m → ∀ j, j < (R i).n → (R i).f j < 256) (h0 : Most T0 first b top) : Most T first b (top + m) := fun k h1 h2 h3 => by
  have old : T k = T0 k ∨ T k = none → (cellX (T k)).s ≤ top + m := fun h => by
    rcases h with h | h
    · rw [h] at h3 ⊢
      exact Nat.le_trans (h0 k h1 h2 h3) (Nat.le_add_right _ _)
    · rw [h] at h3
      cases h3
  by_cases hk : k < e
  · exact old (.inl (hm.front k hk))
  · by_cases hk2 : e + sumN R m ≤ k
    · exact old (hm.back k hk2)
    · obtain ⟨i, j, hi, hj, hkj⟩ := sum_split R m (k - e) (by omega)
      obtain rfl : k = e + sumN R i + j := by omega
      rcases hm.mid i j hi hj with h | h
      · have := (h.cell hj hg (by omega) (hf i hi)).2.2.1
        omega
      · exact old h
/-- Nothing begins where the records that are there end. -/
theorem mix_stop {first l0 n : Nat} (hm : MixAt T T0 gen top e R m) (hg : gen < 4294967296) (ht : top + m < 4294967296) (hz : ∀ i, i < m → needF (R i).n ≠ 0) (hf : ∀ i, i < m → ∀ j, j < (R i).n → (R i).f j < 256) (h0 : Most T0 first b top) (hfe : first ≤ e) (hl : l0 ≤ top) (hend : ∀ q, ¬ recP T0 b gen e l0 q) (hw : Whole T gen top e R m n) :
    ∀ q, ¬ recP T b gen (e + sumN R n) (if n = 0 then l0 else top + n) q := fun q hq => by
  obtain ⟨w1, w2, w3⟩ := hw
  have hp := hq.pos
  obtain ⟨q1, q2, q3, q4, q5⟩ := hq
  have hc0 := q2 0 hp
  have e0 : (fun k => cellX (T (e + sumN R n + k))) 0 = cellX (T (e + sumN R n)) := rfl
  -- an old cell here
  have old : ∀ j, j < q → (T (e + sumN R n + j) = T0 (e + sumN R n + j) ∨ T (e + sumN R n + j) = none) → T (e + sumN R n + j) = T0 (e + sumN R n + j) ∧ (cellX (T (e + sumN R n + j))).s ≤ top := fun j hj h => by
    have h2 := q2 j hj
    rcases h with h | h
    · rw [h] at h2
      exact ⟨h, by rw [h]; exact h0 _ (by omega) (by omega) h2⟩
    · rw [h] at h2
      cases h2
  have same : ∀ j, j < q → (cellX (T (e + sumN R n + j))).s = (cellX (T (e + sumN R n))).s := fun j hj => (q3.2 j hj).2.2.2.2
  have alien : (T (e + sumN R n + 0) = T0 (e + sumN R n + 0) ∨ T (e + sumN R n + 0) = none) → False := fun h => by
    obtain ⟨h1, h2⟩ := old 0 hp h
    have h2 : (cellX (T (e + sumN R n))).s ≤ top := h2
    by_cases hn : n = 0
    · subst hn
      rw [if_pos rfl] at q5
      have es : sumN R 0 = 0 := rfl
      have hall : ∀ j, j < q → T (e + j) = T0 (e + j) := fun j hj => by
        have hs := same j hj
        rw [es] at hs h2
        by_cases hjm : j < sumN R m
        · obtain ⟨i, k, hi, hk, rfl⟩ := sum_split R m j hjm
          rcases hm.mid i k hi hk with hn | ho
          · have := (hn.cell hk hg (by omega) (hf i hi)).2.2.1
            rw [Nat.add_assoc] at this
            rw [Nat.add_zero] at hs h2
            omega
          · rw [Nat.add_assoc] at ho
            exact (old (sumN R i + k) hj (by rw [es, Nat.add_zero]; exact ho)).1
        · exact (old j hj (by rw [es, Nat.add_zero]; exact hm.back (e + j) (by omega))).1
      refine hend q ?_
      have ee : ∀ k, k < q → cellX (T (e + k)) = cellX (T0 (e + k)) := fun k hk => by rw [hall k hk]
      have ez : T e = T0 e := hall 0 hp
      rw [es] at q1 q2 q3 q4 q5
      simp only [Nat.add_zero] at q1 q2 q3 q4 q5
      refine ⟨q1, fun k hk => by rw [← hall k hk]; exact q2 k hk, ⟨hp, fun k hk => ?_⟩, by rw [← ez]; exact q4, by rw [← ez]; exact q5⟩
      have hj := q3.2 k hk
      unfold joinB at hj ⊢
      have e1 := ee k hk
      have e2 := ee 0 hp
      simp only [e1, e2] at hj
      exact hj
    · rw [if_neg hn] at q5
      omega
  by_cases hn : n < m
  · rcases hm.mid n 0 hn (by have := hz n hn; omega) with h | h
    · obtain ⟨c1, c2⟩ := h.cell (by have := hz n hn; omega) hg (by omega) (hf n hn)
      have hx : (cellX (T (e + sumN R n))).s = top + 1 + n := c2.2.1
      have hqq : q = needF (R n).n := by
        have h1 := (q3.2 0 hp).2.2.1
        have h2 : (cellX (T (e + sumN R n + 0))).q = (needF (R n).n : Nat) := c2.2.2.2.1
        have h3 : (cellX (T (e + sumN R n + 0))).q = (q : Nat) := h1
        omega
      obtain ⟨k, hk, hno⟩ := w3 hn
      rcases hm.mid n k hn hk with h | h
      · exact hno h
      · have h1 := (old k (by omega) h).2
        have h2 := same k (by omega)
        omega
    · exact alien h
  · obtain rfl : n = m := by omega
    exact alien (hm.back _ (by omega))
theorem scn_first {n l0 : Nat} (hz : ∀ i, i < n → needF (R i).n ≠ 0) (hf : ∀ i, i < n → ∀ j, j < (R i).n → (R i).f j < 256) (hg : gen < 4294967296) (ht : top + n < 4294967296) (h : NewAt T gen top e R n) (hb : e + sumN R n ≤ b) (hl : l0 ≤ top) (hst : ∀ q, ¬ recP T b gen (e + sumN R n) (if n = 0 then l0 else top + n) q) :
    ∀ (m i : Nat), i + m = n → ∃ rs, SameL ((List.range' i m).map fun i => ((R i).n, (R i).f)) rs ∧ Scn T b gen (e + sumN R i) (if i = 0 then l0 else top + i) rs (e + sumN R n) (if n = 0 then l0 else top + n)
  | 0, i, hi => by
    obtain rfl : i = n := by omega
    exact ⟨[], trivial, .stop hst⟩
  | m + 1, i, hi => by
    have hb' : e + sumN R (i + 1) ≤ b := Nat.le_trans (Nat.add_le_add_left (sumN_mono R (by omega)) _) hb
    obtain ⟨a1, a2, a3⟩ := new_rec hz hf hg ht h (by omega) hb' (last := if i = 0 then l0 else top + i) (by split <;> omega)
    obtain ⟨rs, hs, hk⟩ := scn_first hz hf hg ht h hb hl hst m (i + 1) (by omega)
    refine ⟨_ :: rs, ⟨a2, hs⟩, .more a1 ?_⟩
    rw [a3, show e + sumN R i + needF (R i).n = e + sumN R (i + 1) from by show _ = e + (sumN R i + _); omega]
    rw [if_neg (by omega)] at hk
    exact hk
/-- What is scanned: what was there ahead, and the first of the records. -/
theorem mix_scan {first l0 n : Nat} {rs : List Rec} (hm : MixAt T T0 gen top e R m) (hg : gen < 4294967296) (ht : top + m < 4294967296) (hz : ∀ i, i < m → needF (R i).n ≠ 0) (hf : ∀ i, i < m → ∀ j, j < (R i).n → (R i).f j < 256) (h0 : Most T0 first b top) (hfe : first ≤ e) (hb : e + sumN R m ≤ b) (hl : l0 ≤ top) (hs : Scn T0 b gen first 0 rs e l0) (hw : Whole T gen top e R m n) :
    ∃ rs', SameL (rs ++ recsOf R n) rs' ∧ Scn T b gen first 0 rs' (e + sumN R n) (if n = 0 then l0 else top + n) := by
  have hst := mix_stop hm hg ht hz hf h0 hfe hl hs.ends hw
  obtain ⟨w1, w2, w3⟩ := hw
  have hsm : sumN R n ≤ sumN R m := sumN_mono R w1
  obtain ⟨rs1, h1, h2⟩ := scn_first (l0 := l0) (fun i hi => hz i (by omega)) (fun i hi => hf i (by omega)) hg (by omega) (fun i k hi hk => w2 i k hi hk) (by omega) hl hst n 0 (by omega)
  obtain ⟨rs0, h3, h4⟩ := hs.front (by omega) (fun k _ hk => (hm.front k hk).symm) h2
  refine ⟨rs0 ++ rs1, h3.app ?_, h4⟩
  unfold recsOf
  rw [List.range_eq_range']
  exact h1
end
end Go.Proofs.Yteeomidlnijfbaa

/- A sector torn: what is scanned, and what is added then. -/
namespace Go.Proofs.Yteeomidlnijfbaa
open Go.RowKit
set_option linter.unusedSimpArgs false
set_option linter.unusedVariables false

theorem rdS_still {S : DS} (hg : S.gone = false) (hP : S.P = []) (j : Nat) : rdS S j = if j < S.n then S.T j else none := by
  have hs : S.seen j = S.T j := by unfold DS.seen; rw [hP]; rfl
  unfold rdS DS.read
  rw [hg]
  simp only [Bool.false_eq_true, if_false, Int.toNat_natCast]
  by_cases h : j < S.n
  · rw [show hasB S.n (j : Int) = true from by simp [hasB, h], if_pos h]
    simp only [if_true]
    rw [hs]
    cases S.T j <;> rfl
  · rw [show hasB S.n (j : Int) = false from by simp [hasB]; omega, if_neg h]
    rfl
end Go.Proofs.Yteeomidlnijfbaa

/- What the walks of SegTorn and SegKeeps carry. -/
namespace Go.Proofs.Yteeomidlnijfbaa
open Go.RowKit Go.Shelf
set_option linter.unusedSimpArgs false
set_option linter.unusedVariables false

section
variable {w0 w w' w'' : World} {gd gq : Nat} {S S' : DS} {Q Q' : QS} {G G' : Nat → Prop}
/-- Something is done to the disk. -/
theorem HeldG.post (h : HeldG w0 w gd gq S Q G) {f : FuncId} {args : Array Value} {E : Ending → Prop} (hp : ∀ F, DskAt F w gd S → Calls Try.prog f args w fun e w' => E e ∧ DPost F w w' gd S') :
    Calls Try.prog f args w fun e w' => E e ∧ HeldG w0 w' gd gq S' Q G ∧ Kept G w w' := by
  obtain ⟨F, h1, h2, h3, h4, h5, h6⟩ := h
  refine (hp F h1).mono ?_
  rintro e w' ⟨hE, F', g1, ho, g2⟩
  exact ⟨hE, HeldG.turn h1 h2 h3 h4 h5 h6 g1 g2 (h2.of_block (ho.block gq h2.lt h4.2.1)) (ho.mono fun k e => .inl e)⟩
theorem HeldG.dup (h : HeldG w0 w gd gq S Q G) (hP : S.P.length ≤ 1000000) (A : Option Addr) (n c : Nat) (f : Nat → Nat) (hr : Rd .u8 w A n f) (hf : ∀ j, j < n → f j < 256) (hnc : n ≤ c) (hn : n ≤ 1000000) :
    Calls Try.prog 18 #[.pointer (some ⟨gd, 0, none⟩), .slice A n c] w fun e w' => e = .returned (.tuple #[]) ∧ HeldG w0 w' gd gq (S.up ((List.range n).map f)) Q G ∧ Kept G w w' :=
  h.post (E := fun e => e = .returned (.tuple #[])) fun F hF => by
    obtain ⟨gt, gs, ct, cs, vp, xs, VT, VS, hd⟩ := hF
    exact up_any hd A n c f hr hf hnc hn hP
theorem HeldG.dplan (h : HeldG w0 w gd gq S Q G) (k : Int) (hk : k ≤ 9223372036854775807) :
    Calls Try.prog 17 #[.pointer (some ⟨gd, 0, none⟩), .int .i64 k] w fun e w' => e = .returned (.tuple #[]) ∧ HeldG w0 w' gd gq (S.plan k) Q G ∧ Kept G w w' :=
  h.post (E := fun e => e = .returned (.tuple #[])) fun F hF => by
    obtain ⟨gt, gs, ct, cs, vp, xs, VT, VS, hd⟩ := hF
    refine (plan_any hd k hk).mono ?_
    rintro e w' ⟨rfl, a1, a2, _⟩
    exact ⟨rfl, .box a1 a2⟩
end
section
variable {G G' : Nat → Prop} {w w' : World} {base : Nat} {v v' : Value} {n : Nat} {f : Nat → Nat}
end
end Go.Proofs.Yteeomidlnijfbaa

/- SegTorn: the calls of its end. -/
namespace Go.Proofs.Yteeomidlnijfbaa
open Go.RowKit Go.Shelf
set_option linter.unusedSimpArgs false
set_option linter.unusedVariables false

/-- append in a region's guarded operation that is wanted. -/
theorem wpList_want {P : Program} {w : World} {ops : Array Oper} {rest : List Oper} {o : Oper} {a : Act} {Q : Exit → Act → World → Prop} (hw : Region.wanted o (yielded ops a.tmps) = true) (h : o.wp P a w (wpList P ops Q rest) Q) : wpList P ops Q (o :: rest) a w := by
  unfold wpList
  rw [if_pos hw]
  exact .inl h
section
variable {w w7 u : World} {gd gq : Nat} {S : DS} {NN : Nat → Nat} {m n : Nat} {A : Option Addr} {c : Nat} {v : Value} {rs : List Rec} {Q : QS} {G : Nat → Prop}
end
end Go.Proofs.Yteeomidlnijfbaa

/- A disk that loses, and a segment: what is there of records that were being added. -/
namespace Go.Proofs.Yteeomidlnijfbaa
open Go.RowKit
set_option linter.unusedSimpArgs false
set_option linter.unusedVariables false

/-- The writes of cells from sector e on. -/
def wrL (e : Nat) : List CellD → List (Nat × (Nat → Nat))
  | [] => []
  | x :: l => (e, secX x) :: wrL (e + 1) l
theorem wrL_mem : ∀ {xs : List CellD} {e j : Nat} {f : Nat → Nat}, (j, f) ∈ wrL e xs → ∃ k x, xs[k]? = some x ∧ j = e + k ∧ f = secX x
  | x :: l, e, j, f, h => by
    rcases List.mem_cons.1 h with h | h
    · cases h
      exact ⟨0, x, rfl, rfl, rfl⟩
    · obtain ⟨k, y, h1, h2, h3⟩ := wrL_mem h
      exact ⟨k + 1, y, by rw [List.getElem?_cons_succ]; exact h1, by omega, h3⟩
theorem begun_ok {S : DS} (hg : S.gone = false) (hk : S.ok = true) : S.begun.T = S.T ∧ S.begun.P = S.P ∧ S.begun.n = S.n ∧ S.begun.gone = false := by
  have hl : S.left ≠ 1 := by simpa [DS.ok] using hk
  unfold DS.begun
  split
  · exact ⟨rfl, rfl, rfl, hg⟩
  · exact ⟨rfl, rfl, rfl, hg⟩
theorem begun_bad {S : DS} (hk : S.ok = false) : S.begun.T = S.T ∧ S.begun.P = S.P ∧ S.begun.n = S.n ∧ S.begun.gone = true := by
  have hl : S.left = 1 := by simpa [DS.ok] using hk
  unfold DS.begun
  rw [if_neg (by omega), if_pos hl]
  exact ⟨rfl, rfl, rfl, rfl⟩
theorem write_said {S : DS} {i : Nat} {f : Nat → Nat} (hg : S.gone = false) (hi : i < S.n) : ((S.write (i : Nat) f).2 = 0 ∧ (S.write (i : Nat) f).1.T = S.T ∧ (S.write (i : Nat) f).1.P = S.P ++ [(i, f)] ∧ (S.write (i : Nat) f).1.n = S.n ∧ (S.write (i : Nat) f).1.gone = false) ∨
    ((S.write (i : Nat) f).2 = 4 ∧ (S.write (i : Nat) f).1.T = S.T ∧ (S.write (i : Nat) f).1.P = S.P ∧ (S.write (i : Nat) f).1.n = S.n ∧ (S.write (i : Nat) f).1.gone = true) := by
  have hb : hasB S.n (i : Nat) = true := by simp [hasB, hi]
  unfold DS.write
  rw [hg, hb]
  simp only [Bool.false_eq_true, if_false, if_true]
  cases hk : S.ok with
  | true =>
    obtain ⟨h1, h2, h3, h4⟩ := begun_ok hg hk
    left
    simp only [if_true]
    exact ⟨trivial, h1, by show S.begun.P ++ _ = _; rw [h2]; rfl, h3, h4⟩
  | false =>
    obtain ⟨h1, h2, h3, h4⟩ := begun_bad hk
    right
    simp only [Bool.false_eq_true, if_false]
    exact ⟨trivial, h1, h2, h3, h4⟩
theorem flush_said {S : DS} (hg : S.gone = false) : (S.flush.2 = 0 ∧ S.flush.1.n = S.n ∧ S.flush.1.gone = false ∧ S.flush.1.P = []) ∨ (S.flush.2 = 4 ∧ S.flush.1.T = S.T ∧ S.flush.1.P = S.P ∧ S.flush.1.n = S.n ∧ S.flush.1.gone = true) := by
  unfold DS.flush
  rw [hg]
  simp only [Bool.false_eq_true, if_false]
  cases hk : S.ok with
  | true =>
    obtain ⟨h1, h2, h3, h4⟩ := begun_ok hg hk
    left
    simp only [if_true]
    exact ⟨trivial, h3, h4, rfl⟩
  | false =>
    obtain ⟨h1, h2, h3, h4⟩ := begun_bad hk
    right
    simp only [Bool.false_eq_true, if_false]
    exact ⟨trivial, h1, h2, h3, h4⟩
theorem wrS_said : ∀ (xs : List CellD) (S : DS) (e : Nat), S.gone = false → e + xs.length ≤ S.n → wrC S e xs → (wrS S e xs).T = S.T ∧ (wrS S e xs).P = S.P ++ wrL e xs ∧ (wrS S e xs).n = S.n ∧ (wrS S e xs).gone = false
  | [], S, e, hg, _, _ => ⟨rfl, by simp [wrS, wrL], rfl, hg⟩
  | x :: l, S, e, hg, hn, h => by
    rw [List.length_cons] at hn
    obtain ⟨h1, h2⟩ := h
    rcases write_said (f := secX x) hg (i := e) (by omega) with ⟨_, a1, a2, a3, a4⟩ | ⟨b0, _⟩
    · obtain ⟨c1, c2, c3, c4⟩ := wrS_said l _ (e + 1) a4 (by rw [a3]; omega) h2
      refine ⟨c1.trans a1, ?_, c3.trans a3, c4⟩
      show (wrS _ (e + 1) l).P = _
      rw [c2, a2, List.append_assoc]
      rfl
    · rw [b0] at h1
      cases h1
/-- What is there of a sector behind a loss. -/
theorem upT_at (j : Nat) : ∀ (P : List (Nat × (Nat → Nat))) (T : Nat → Option (Nat → Nat)) (cs : List Nat), upT T P cs j = T j ∨ ∃ f, (j, f) ∈ P ∧ (upT T P cs j = some f ∨ upT T P cs j = none)
  | [], T, cs => .inl (by cases cs <;> rfl)
  | p :: P, T, [] => by
    rcases upT_at j P T [] with h | ⟨f, h1, h2⟩
    · exact .inl h
    · exact .inr ⟨f, List.mem_cons_of_mem _ h1, h2⟩
  | p :: P, T, c :: cs => by
    show upT (if c % 3 = 1 then setT T p.1 (some p.2) else if c % 3 = 2 then setT T p.1 none else T) P cs j = _ ∨ ∃ f, _ ∧ (upT (if c % 3 = 1 then setT T p.1 (some p.2) else if c % 3 = 2 then setT T p.1 none else T) P cs j = _ ∨ upT (if c % 3 = 1 then setT T p.1 (some p.2) else if c % 3 = 2 then setT T p.1 none else T) P cs j = _)
    rcases upT_at j P (if c % 3 = 1 then setT T p.1 (some p.2) else if c % 3 = 2 then setT T p.1 none else T) cs with h | ⟨f, h1, h2⟩
    · rw [h]
      by_cases hj : j = p.1
      · subst hj
        split
        · exact .inr ⟨p.2, List.mem_cons_self .., .inl (if_pos rfl)⟩
        · split
          · exact .inr ⟨p.2, List.mem_cons_self .., .inr (if_pos rfl)⟩
          · exact .inl rfl
      · left
        split
        · exact if_neg hj
        · split
          · exact if_neg hj
          · rfl
    · exact .inr ⟨f, List.mem_cons_of_mem _ h1, h2⟩
/-- A disk on which all is flushed, and a segment that holds these records; a plan may stand. -/
structure KA (S : DS) (Q : QS) (rs : List Rec) : Prop where
  gone : S.gone = false
  P : S.P = []
  n : S.n = 42
  frame : Q.first = 1 ∧ Q.behind = 41 ∧ Q.gen = 1
  ok : Q.ok
  scn : ∃ rs' l, SameL rs rs' ∧ Scn (rdS S) 41 1 1 0 rs' Q.ende l ∧ l ≤ Q.top
  most : Most (rdS S) 1 41 Q.top
/-- The power went while records were being written. -/
structure KB (S : DS) (Q : QS) (rs : List Rec) (m : Nat) (R : Nat → RowD) : Prop where
  gone : S.gone = true
  n : S.n = 42
  frame : Q = ⟨1, 41, 1, 1, 4294967295⟩
  pos : m ≠ 0
  was : ∃ S0 Q0 xs, KA S0 Q0 rs ∧ takesC Q0 m R = 0 ∧ S.T = S0.T ∧ S.P = wrL Q0.ende xs ∧ (∀ (j : Nat) (y : CellD), xs[j]? = some y → Says Q0 m R j y) ∧ xs.length ≤ sumN R m
  byt : ∀ i, i < m → ∀ j, j < (R i).n → (R i).f j < 256
/-- Records are added. -/
theorem KA.add {S S' : DS} {Q Q' : QS} {rs : List Rec} {m : Nat} {R : Nat → RowD} {k : Int} (h : KA S Q rs) (hf : ∀ i, i < m → ∀ j, j < (R i).n → (R i).f j < 256) (ha : AddS S Q m R S' Q' k) :
    (k ≠ 0 ∧ k ≠ 4 ∧ S' = S ∧ Q' = Q) ∨ (k = 0 ∧ KA S' Q' (rs ++ recsOf R m) ∧ ∀ i, i < m → needF (R i).n ≠ 0) ∨ (k = 4 ∧ KB S' Q' rs m R) := by
  obtain ⟨f1, f2, f3⟩ := h.frame
  obtain ⟨rs', l, hs, hsc, hlt⟩ := h.scn
  have hok := h.ok
  have hcap : takesC Q m R = 0 → Q.ende + sumN R m ≤ 41 := fun ht => by
    have := (takes_yes ht).2.1
    have := hok.2.1
    omega
  have hBQ : ({ Q with ende := Q.first, top := 4294967295 } : QS) = ⟨1, 41, 1, 1, 4294967295⟩ := by
    obtain ⟨a, b, c, d, e⟩ := Q
    simp only at f1 f2 f3
    subst f1 f2 f3
    rfl
  cases ha with
  | no ht =>
    refine .inl ⟨ht, ?_, rfl, rfl⟩
    unfold takesC
    split
    · decide
    · split <;> decide
  | gone _ hg => rw [h.gone] at hg; cases hg
  | none_ ht hg hn =>
    subst hn
    refine .inr (.inl ⟨rfl, ?_, fun i hi => absurd hi (by omega)⟩)
    rw [show recsOf R 0 = [] from rfl, List.append_nil]
    exact h
  | cut ht hg hn pre x hs2 hl hc hk =>
    have hcp := hcap ht
    rw [List.length_append, List.length_singleton] at hl
    obtain ⟨a1, a2, a3, a4⟩ := wrS_said pre S Q.ende h.gone (by rw [h.n]; omega) hc
    rcases write_said (f := secX x) a4 (i := Q.ende + pre.length) (by rw [a3, h.n]; omega) with ⟨b0, _⟩ | ⟨b0, b1, b2, b3, b4⟩
    · exact absurd b0 hk
    · have e := wrS_snoc x pre S Q.ende
      refine .inr (.inr ⟨b0, ⟨by rw [e]; exact b4, by rw [e, b3, a3]; exact h.n, hBQ, hn, ⟨S, Q, pre, h, ht, by rw [e, b1, a1], by rw [e, b2, a2, h.P]; rfl, fun j y hj => hs2 j y (by rw [List.getElem?_append_left (List.getElem?_eq_some_iff.1 hj).1]; exact hj), by omega⟩, hf⟩⟩)
  | lost ht hg hn xs hs2 hl hc hk =>
    have hcp := hcap ht
    obtain ⟨a1, a2, a3, a4⟩ := wrS_said xs S Q.ende h.gone (by rw [h.n]; omega) hc
    rcases flush_said a4 with ⟨b0, _⟩ | ⟨b0, b1, b2, b3, b4⟩
    · exact absurd b0 hk
    · exact .inr (.inr ⟨b0, ⟨b4, by rw [b3, a3]; exact h.n, hBQ, hn, ⟨S, Q, xs, h, ht, by rw [b1, a1], by rw [b2, a2, h.P]; rfl, hs2, by omega⟩, hf⟩⟩)
  | kept ht hg hn xs hs2 hl hc hk =>
    have hcp := hcap ht
    obtain ⟨a1, a2, a3, a4⟩ := wrS_said xs S Q.ende h.gone (by rw [h.n]; omega) hc
    rcases flush_said a4 with ⟨b0, b1, b2, b3⟩ | ⟨b0, _⟩
    · have hmo := h.most
      rw [← f1, ← f2] at hmo
      have hsc' := hsc
      rw [show (41 : Nat) = Q.behind from f2.symm, show Scn (rdS S) Q.behind 1 1 0 rs' Q.ende l ↔ Scn (rdS S) Q.behind Q.gen Q.first 0 rs' Q.ende l from by rw [f1, f3]] at hsc'
      obtain ⟨c1, ⟨rs2, c2, c3⟩, c4⟩ := scn_kept hok h.gone hn hsc' hlt hmo ht hf hc hs2 hl hk
      obtain ⟨t1, t2, t3⟩ := takes_yes ht
      obtain ⟨q1, q2, q3, q4, q5⟩ := hok
      rw [f1, f2, f3] at c3
      rw [f1, f2] at c4
      exact .inr (.inl ⟨rfl, ⟨b2, b3, by rw [b1, a3]; exact h.n, ⟨f1, f2, f3⟩, ⟨by show Q.first ≤ Q.ende + _; omega, by show Q.ende + _ ≤ Q.behind; omega, q3, q4, by show Q.top + m < _; omega⟩, ⟨rs2, _, (hs.app (SameL.refl _)).trans c2, c3, Nat.le_refl _⟩, c4⟩, t1⟩)
    · rw [b0] at hk
      cases hk
end Go.Proofs.Yteeomidlnijfbaa
