/- A ledger that is compacted, or lost, by the sectors alone. -/
import Derived.Test.YtmcbmbcfgefocaaPGg
namespace Go.Proofs.Ytmcbmbcfgefocaa
open Go.RowKit Go.Shelf
set_option linter.unusedSimpArgs false
set_option linter.unusedVariables false

theorem Scn.other {T T' : Nat → Option (Nat → Nat)} {b gen i last : Nat} {rs : List Rec} {e l : Nat} (h : Scn T b gen i last rs e l) (hi : i ≤ b) (ht : ∀ k, i ≤ k → k < b → T k = T' k) : ∃ rs0, SameL rs rs0 ∧ Scn T' b gen i last rs0 e l := by
  have hle := h.le hi
  have hstop : Scn T' b gen e l [] e l := .stop fun q hq => h.ends q (hq.congr (T' := T) (e := b) hq.1 fun k k1 k2 => (ht k (by omega) k2).symm).1
  obtain ⟨rs0, h1, h2⟩ := h.front hi (fun k k1 k2 => ht k k1 (by omega)) hstop
  rw [List.append_nil] at h2
  exact ⟨rs0, h1, h2⟩
theorem calm_sti {S : DS} {Q : QS} {rs : List Rec} (h : Calm S Q rs) : S = Sti S.n S.T := by
  obtain ⟨n, T, P, g, l⟩ := S
  have h1 : g = false := h.gone
  have h2 : l = 0 := h.left
  have h3 : P = [] := h.P
  subst h1
  subst h2
  subst h3
  rfl
theorem rdS_sti {n : Nat} {T : Nat → Option (Nat → Nat)} (k : Nat) : rdS (Sti n T) k = if k < n then T k else none := by
  by_cases h : k < n
  · rw [if_pos h]
    exact sti_read h
  · rw [if_neg h]
    unfold rdS DS.read
    have : hasB n (k : Int) = false := by
      unfold hasB
      rw [decide_eq_false_iff_not]
      omega
    rw [this]
    rfl
theorem sti_flushed {n : Nat} {T : Nat → Option (Nat → Nat)} {i : Nat} (h : i < n) (f : Nat → Nat) : ((Sti n T).write (i : Nat) f).2 = 0 ∧ ((Sti n T).write (i : Nat) f).1.P.length ≤ 1 ∧ ((Sti n T).write (i : Nat) f).1.flush = (Sti n (setT T i (some f)), 0) := by
  rw [sti_write h]
  exact ⟨rfl, Nat.le_refl _, rfl⟩
/-- Another sector, outside of the segment, has turned. -/
theorem Calm.other {S : DS} {Q : QS} {rs : List Rec} (h : Calm S Q rs) {T : Nat → Option (Nat → Nat)} (ht : ∀ k, Q.first ≤ k → k < Q.behind → T k = S.T k) : Calm (Sti S.n T) Q rs := by
  have he := calm_sti h
  have hr : ∀ k, Q.first ≤ k → k < Q.behind → rdS S k = rdS (Sti S.n T) k := fun k k1 k2 => by
    rw [he, rdS_sti, rdS_sti]
    show (if k < S.n then S.T k else none) = _
    rw [← ht k k1 k2]
  obtain ⟨rs', l, h1, h2, h3⟩ := h.scn
  obtain ⟨rs0, h4, h5⟩ := h2.other (by have := h.ok.1; have := h.ok.2.1; omega) hr
  refine ⟨rfl, rfl, rfl, h.ok, h.n, ⟨rs0, l, h1.trans h4, h5, h3⟩, fun k k1 k2 k3 => ?_⟩
  rw [← hr k k1 k2] at k3 ⊢
  exact h.most k k1 k2 k3
/-- A half with no cell of this generation. -/
theorem calm_fresh {S : DS} {N g t : Nat} (hN : 18 ≤ N) (hN2 : N ≤ 512) (hn : S.n = N) (hg : S.gone = false) (hl : S.left = 0) (hP : S.P = []) (hgen : g < 4294967296) (ht : t < 4294967296) (hc : ∀ k, 2 ≤ k → k < N → cellB (rdS S k) = true → (cellX (rdS S k)).g < g) (hm : Most (rdS S) (segQ N g).first (segQ N g).behind t) : Calm S { segQ N g with ende := (segQ N g).first, top := t } [] := by
  have hf := half_fits hN g
  have hok := segQ_ok hN hN2 hgen
  refine ⟨hg, hl, hP, ⟨hok.1, hok.2.1, hok.2.2.1, hok.2.2.2.1, ht⟩, by rw [hn]; exact hf.1, ⟨[], 0, trivial, .stop fun q hq => ?_, Nat.zero_le _⟩, hm⟩
  have hp := hq.pos
  have h1 : (segQ N g).first + q ≤ (segQ N g).behind := hq.1
  have h2 := hq.2.1 0 hp
  have h3 : (cellX (rdS S (segQ N g).first)).g = g := hq.2.2.2.1
  have h4 : (segQ N g).first = 2 + g % 2 * halfN N := rfl
  have h5 : (segQ N g).behind = 2 + g % 2 * halfN N + halfN N := rfl
  have := hc (segQ N g).first (by omega) (by omega) h2
  omega
/-- The segment of the next generation, begun. -/
noncomputable def nextQ (N : Nat) (S : DS) (g : Nat) : QS := { segQ N g with ende := (segQ N g).first, top := topOf (rdS S) (segQ N g).first ((segQ N g).behind - (segQ N g).first) }
section
variable {N M : Nat} {S : DS} {Q : QS} {rs : List Rec}
theorem nextQ_top (hN : 18 ≤ N) (h : LedS N M S Q rs) (g : Nat) : (nextQ N S g).top ≤ M ∧ Most (rdS S) (segQ N g).first (segQ N g).behind (nextQ N S g).top := by
  have hf := half_fits hN g
  have h4 : (segQ N g).first = 2 + g % 2 * halfN N := rfl
  have h5 : (segQ N g).behind = 2 + g % 2 * halfN N + halfN N := rfl
  have hb : (segQ N g).first + ((segQ N g).behind - (segQ N g).first) = (segQ N g).behind := by omega
  constructor
  · exact top_most _ fun k k1 k2 k3 => h.nums k (by omega) (by rw [hb] at k2; omega) k3
  · have := most_top (rdS S) (segQ N g).first ((segQ N g).behind - (segQ N g).first)
    rw [hb] at this
    exact this
theorem LedS.begun (hN : 18 ≤ N) (hN2 : N ≤ 512) (hM : M ≤ 1000000) (h : LedS N M S Q rs) (hg : Q.gen + 1 < 4294967296) : Calm S (nextQ N S (Q.gen + 1)) [] := by
  have ht := nextQ_top hN h (Q.gen + 1)
  exact calm_fresh hN hN2 h.n h.calm.gone h.calm.left h.calm.P hg (Nat.lt_of_le_of_lt ht.1 (by omega)) (fun k k1 k2 k3 => Nat.lt_succ_of_le (h.gens k k1 k2 k3)) ht.2
/-- The root of the next generation is saved. -/
theorem led_saved (hN : 18 ≤ N) {S1 : DS} {Q1 : QS} {rs1 : List Rec} {g M1 : Nat} (hg : g + 1 < 4294967296) (hn : S1.n = N) (hfew : rs1.length ≤ 200) (hc : Calm S1 Q1 rs1) (hq : Q1.gen = g + 1) (hf : Q1.first = 2 + (g + 1) % 2 * halfN N) (hb : Q1.behind = 2 + (g + 1) % 2 * halfN N + halfN N) (hroot : max (sayN 0 (rdS S1 0)) (sayN 1 (rdS S1 1)) = g) (hgen : ∀ k, 2 ≤ k → k < N → cellB (rdS S1 k) = true → (cellX (rdS S1 k)).g ≤ g + 1) (hnum : ∀ k, 2 ≤ k → k < N → cellB (rdS S1 k) = true → (cellX (rdS S1 k)).s ≤ M1) (ht : Q1.top ≤ M1) :
    LedS N M1 (S1.save (g + 1)).1 Q1 rs1 ∧ (S1.save (g + 1)).2 = 0 := by
  have he := calm_sti hc
  obtain ⟨T, hT⟩ : ∃ T, S1.T = T := ⟨_, rfl⟩
  rw [hn, hT] at he
  have hsv : S1.save (g + 1) = (Sti N (setT T ((g + 1) % 2) (some (rootF (g + 1)))), 0) := by
    rw [he]
    exact sti_save (by omega) (by omega)
  have hr : ∀ k, k ≠ (g + 1) % 2 → rdS (Sti N (setT T ((g + 1) % 2) (some (rootF (g + 1))))) k = rdS S1 k := fun k hk => by
    rw [he, rdS_sti, rdS_sti]
    unfold setT
    rw [if_neg hk]
  have hr2 : rdS (Sti N (setT T ((g + 1) % 2) (some (rootF (g + 1))))) ((g + 1) % 2) = some (rootF (g + 1)) := by
    rw [rdS_sti, if_pos (by omega)]
    unfold setT
    rw [if_pos rfl]
  rw [hsv]
  have hco : Calm (Sti N (setT T ((g + 1) % 2) (some (rootF (g + 1))))) Q1 rs1 := by
    have := hc.other (T := setT T ((g + 1) % 2) (some (rootF (g + 1)))) fun k k1 k2 => by
      rw [hT]
      unfold setT
      rw [if_neg (by omega)]
    rw [hn] at this
    exact this
  refine ⟨⟨rfl, hfew, hco, by rw [hq]; exact hf, by rw [hq]; exact hb, ?_, fun k k1 k2 k3 => ?_, fun k k1 k2 k3 => ?_, ht⟩, rfl⟩
  · have s1 := say_root (i := (g + 1) % 2) hg
    rw [if_pos rfl] at s1
    rcases (by omega : (g + 1) % 2 = 0 ∨ (g + 1) % 2 = 1) with e | e
    · have r1 := hr 1 (by omega)
      rw [e] at hr2 r1 s1 ⊢
      rw [hr2, r1, s1, hq]
      omega
    · have r0 := hr 0 (by omega)
      rw [e] at hr2 r0 s1 ⊢
      rw [hr2, r0, s1, hq]
      omega
  · rw [hr k (by omega)] at k3 ⊢
    rw [hq]
    exact hgen k k1 k2 k3
  · rw [hr k (by omega)] at k3 ⊢
    exact hnum k k1 k2 k3
/-- Compacted to some records. -/
theorem LedS.compact (hN : 18 ≤ N) (hN2 : N ≤ 512) (hM : M ≤ 1000000) (h : LedS N M S Q rs) (hg : Q.gen + 1 < 4294967296) {n : Nat} {R : Nat → RowD} {S1 : DS} {Q1 : QS} (ha : AddS S (nextQ N S (Q.gen + 1)) n R S1 Q1 0) (hn : n ≠ 0) (hfew : n ≤ 200) (hf : ∀ i, i < n → ∀ j, j < (R i).n → (R i).f j < 256) :
    LedS N (M + n) (S1.save (Q.gen + 1)).1 Q1 (recsOf R n) ∧ (S1.save (Q.gen + 1)).2 = 0 ∧ S1.P.length ≤ 900000 ∧ Q1 = { nextQ N S (Q.gen + 1) with ende := (segQ N (Q.gen + 1)).first + sumN R n, top := (nextQ N S (Q.gen + 1)).top + n } := by
  have hc := h.begun hN hN2 hM hg
  have ht := (nextQ_top hN h (Q.gen + 1)).1
  have hat := added_at hc.ok ha hf
  have h2 : 2 ≤ (nextQ N S (Q.gen + 1)).ende := Nat.le_add_right _ _
  have hgn : (nextQ N S (Q.gen + 1)).gen = Q.gen + 1 := rfl
  rcases hc.add hf ha with ⟨e, h0, _⟩ | ⟨_, htk, hSn, hQ, hcc⟩
  · exact absurd rfl h0
  · rw [if_neg hn] at hQ
    subst hQ
    rw [List.nil_append] at hcc
    have hlo : ∀ k, k < 2 → rdS S1 k = rdS S k := fun k hk => by
      rcases hat k with e | ⟨a1, _⟩
      · exact e
      · omega
    have key : ∀ k, 2 ≤ k → k < N → cellB (rdS S1 k) = true → (cellX (rdS S1 k)).g ≤ Q.gen + 1 ∧ (cellX (rdS S1 k)).s ≤ M + n := fun k k1 k2 k3 => by
      rcases hat k with e | ⟨a1, a2, a3⟩
      · rw [e] at k3 ⊢
        have := h.gens k k1 k2 k3
        have := h.nums k k1 k2 k3
        omega
      · obtain ⟨a4, a5⟩ := a3 k3
        omega
    obtain ⟨b1, b2⟩ := led_saved hN (S1 := S1) (g := Q.gen) (M1 := M + n) hg (hSn.trans h.n) (by unfold recsOf; simpa using hfew) hcc rfl rfl rfl (by rw [hlo 0 (by omega), hlo 1 (by omega)]; exact h.root) (fun k k1 k2 k3 => (key k k1 k2 k3).1) (fun k k1 k2 k3 => (key k k1 k2 k3).2) (by show (nextQ N S (Q.gen + 1)).top + n ≤ _; omega)
    exact ⟨b1, b2, by rw [hcc.P]; decide, rfl⟩
/-- Compacted to none. -/
theorem LedS.compact0 (hN : 18 ≤ N) (hN2 : N ≤ 512) (hM : M ≤ 1000000) (h : LedS N M S Q rs) (hg : Q.gen + 1 < 4294967296) {S1 : DS} (hS1 : S1 = (S.write ((segQ N (Q.gen + 1)).first : Nat) fun _ => 0).1.flush.1) :
    (S.write ((segQ N (Q.gen + 1)).first : Nat) fun _ => 0).2 = 0 ∧ (S.write ((segQ N (Q.gen + 1)).first : Nat) fun _ => 0).1.P.length ≤ 900000 ∧ (S.write ((segQ N (Q.gen + 1)).first : Nat) fun _ => 0).1.flush.2 = 0 ∧
    (S1.gone = false ∧ S1.P.length ≤ 900000) ∧ LedS N M (S1.save (Q.gen + 1)).1 (nextQ N S (Q.gen + 1)) [] ∧ (S1.save (Q.gen + 1)).2 = 0 := by
  have he := calm_sti h.calm
  obtain ⟨T, hT⟩ : ∃ T, S.T = T := ⟨_, rfl⟩
  have hn := h.n
  rw [hn, hT] at he
  have hf := half_fits hN (Q.gen + 1)
  have h4 : (segQ N (Q.gen + 1)).first = 2 + (Q.gen + 1) % 2 * halfN N := rfl
  have h5 : (segQ N (Q.gen + 1)).behind = 2 + (Q.gen + 1) % 2 * halfN N + halfN N := rfl
  have hlt : (segQ N (Q.gen + 1)).first < N := by omega
  obtain ⟨a1, a2, a3⟩ := sti_flushed (T := T) hlt fun _ => 0
  rw [← he] at a1 a2 a3
  have ht := nextQ_top hN h (Q.gen + 1)
  have e1 : S1 = Sti N (setT T (segQ N (Q.gen + 1)).first (some fun _ => 0)) := by rw [hS1, a3]
  have hr : ∀ k, rdS S1 k = if k = (segQ N (Q.gen + 1)).first then some (fun _ => 0) else rdS S k := fun k => by
    rw [e1, he, rdS_sti, rdS_sti]
    unfold setT
    by_cases e : k = (segQ N (Q.gen + 1)).first
    · rw [if_pos e, if_pos (by omega), if_pos e]
    · rw [if_neg e, if_neg e]
  have hcell : ∀ k, cellB (rdS S1 k) = true → rdS S1 k = rdS S k := fun k hk => by
    rw [hr k] at hk ⊢
    by_cases e : k = (segQ N (Q.gen + 1)).first
    · rw [if_pos e, zero_cell] at hk
      cases hk
    · rw [if_neg e]
  have hcc : Calm S1 (nextQ N S (Q.gen + 1)) [] := calm_fresh hN hN2 (by rw [e1]) (by rw [e1]) (by rw [e1]) (by rw [e1]) hg (Nat.lt_of_le_of_lt ht.1 (by omega)) (fun k k1 k2 k3 => by
    have e := hcell k k3
    rw [e] at k3 ⊢
    exact Nat.lt_succ_of_le (h.gens k k1 k2 k3)) fun k k1 k2 k3 => by
    have e := hcell k k3
    rw [e] at k3 ⊢
    exact ht.2 k k1 k2 k3
  obtain ⟨b1, b2⟩ := led_saved hN (S1 := S1) (g := Q.gen) (M1 := M) hg (by rw [e1]) (by simp) hcc rfl rfl rfl (by rw [hr 0, if_neg (by omega), hr 1, if_neg (by omega)]; exact h.root) (fun k k1 k2 k3 => by
    have e := hcell k k3
    rw [e] at k3 ⊢
    have := h.gens k k1 k2 k3
    omega) (fun k k1 k2 k3 => by
    have e := hcell k k3
    rw [e] at k3 ⊢
    exact h.nums k k1 k2 k3) ht.1
  exact ⟨a1, by omega, by rw [a3], ⟨by rw [e1], by rw [e1]; exact Nat.zero_le _⟩, b1, b2⟩
end
end Go.Proofs.Ytmcbmbcfgefocaa
