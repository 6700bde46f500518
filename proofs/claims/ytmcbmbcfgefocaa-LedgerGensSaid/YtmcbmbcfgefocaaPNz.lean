/- The document's awake. -/
import Derived.Test.YtmcbmbcfgefocaaPNv
import Derived.Test.YtmcbmbcfgefocaaPGc
namespace Go.Proofs.Ytmcbmbcfgefocaa
open Go.RowKit
set_option linter.unusedSimpArgs false
set_option linter.unusedVariables false

/-- Rows of one byte each, one block behind the other, and their list. -/
def oneR (g : Nat) (f : Nat → Nat) : Nat → RowD := fun i => ⟨some ⟨g + i, 0, none⟩, 1, 1, fun _ => f i⟩
theorem ones_in {u : World} {g lb n : Nat} {f : Nat → Nat} (hf : ∀ i, f i < 256) (hb : ∀ i, i < n → Boxed u (g + i) 5 (.int .u8 (f i : Nat))) {cs : Array Value} {t : TypeId} {m : Nat × Nat} (hl : u.heap[lb]? = some (.cells cs t m)) (hc : ∀ i, i < n → cs[i]? = some (.slice (some ⟨g + i, 0, none⟩) 1 1)) :
    RowsIn u (some ⟨lb, 0, none⟩) n (oneR g f) := fun i hi => by
  refine ⟨_, rfl, ?_, ⟨_, 1, rfl, Nat.le_refl _, fun j hj => ⟨_, rfl, ?_⟩, fun j hj => hf i⟩, by show (1 : Nat) ≤ _; decide⟩
  · rw [add_mk, Nat.zero_add, cell_of_row _ _ i cs _ _ hl]
    exact hc i hi
  · have hj : j < 1 := hj
    obtain rfl : j = 0 := by omega
    exact (hb i hi).cell
theorem ones_recs (g : Nat) (f : Nat → Nat) (n : Nat) {u : World} {lb c : Nat} (h : RowsIn u (some ⟨lb, 0, none⟩) n (oneR g f)) : RowsBy u (.slice (some ⟨lb, 0, none⟩) n c) (recsOf (oneR g f) n) := by
  have hl : (recsOf (oneR g f) n).length = n := by unfold recsOf; simp
  refine ⟨_, c, by rw [hl], fun i r hi => ?_⟩
  have hin : i < n := by
    by_cases e : i < n
    · exact e
    · rw [List.getElem?_eq_none (by omega)] at hi; cases hi
  obtain ⟨ad, e, h1, h2, h3⟩ := h i hin
  have hr : r = ((oneR g f i).n, (oneR g f i).f) := by
    unfold recsOf at hi
    simp [hin] at hi
    exact hi.symm
  subst hr
  exact ⟨ad, _, e, h1, h2, h3⟩
theorem need_one : needF 1 = 1 := by unfold needF; decide
theorem sum_ones (g : Nat) (f : Nat → Nat) : ∀ n, sumN (oneR g f) n = n
  | 0 => rfl
  | n + 1 => by
    show sumN (oneR g f) n + needF 1 = n + 1
    rw [sum_ones g f n, need_one]
end Go.Proofs.Ytmcbmbcfgefocaa

/- A disk with a segment, and blocks that are ours. -/
namespace Go.Proofs.Ytmcbmbcfgefocaa
open Go.RowKit
set_option linter.unusedSimpArgs false
set_option linter.unusedVariables false

/-- A disk and a segment of it, all of it new behind w0; the blocks G are ours, apart from the two. -/
def HeldG (w0 w : World) (gd gq : Nat) (S : DS) (Q : QS) (G : Nat → Prop) : Prop :=
  ∃ F : Nat → Prop, DskAt F w gd S ∧ SBox w gq gd Q ∧ Below w0.heap.size w0 w ∧ (w0.heap.size ≤ gq ∧ ¬ F gq ∧ ¬ G gq) ∧ (∀ k, F k → w0.heap.size ≤ k ∧ ¬ G k) ∧ ∀ k, G k → w0.heap.size ≤ k ∧ k < w.heap.size
/-- Ours are as they were. -/
def Kept (G : Nat → Prop) (w w' : World) : Prop := (∀ k, G k → w'.heap[k]? = w.heap[k]?) ∧ w.heap.size ≤ w'.heap.size
section
variable {w0 w w' : World} {gd gq : Nat} {S S' : DS} {Q Q' : QS} {G G' : Nat → Prop}
theorem HeldG.box (h : HeldG w0 w gd gq S Q G) : SBox w gq gd Q := by
  obtain ⟨F, h1, h2, h3, h4, h5, h6⟩ := h
  exact h2
theorem HeldG.bel (h : HeldG w0 w gd gq S Q G) : Below w0.heap.size w0 w := by
  obtain ⟨F, h1, h2, h3, h4, h5, h6⟩ := h
  exact h3
/-- Only blocks of ours have turned, and some are new: they are ours, if we like. -/
theorem HeldG.ours (h : HeldG w0 w gd gq S Q G) (ho : Only G w w') (hG : ∀ k, G' k → G k ∨ (w.heap.size ≤ k ∧ k < w'.heap.size)) : HeldG w0 w' gd gq S Q G' := by
  obtain ⟨F, h1, h2, h3, h4, h5, h6⟩ := h
  have hl := h1.lt
  have hlq := h2.lt
  have h0 := h3.size
  have hs := ho.size
  refine ⟨F, h1.keep (fun k hk => ho.block k (hl k hk) (h5 k hk).2) hs, h2.of_block (ho.block gq hlq h4.2.2), bbt' h3 ho fun k hk => (h6 k hk).1, ⟨h4.1, h4.2.1, fun e => ?_⟩, fun k hk => ⟨(h5 k hk).1, fun e => ?_⟩, fun k hk => ?_⟩
  · rcases hG _ e with e' | e'
    · exact h4.2.2 e'
    · omega
  · rcases hG _ e with e' | e'
    · exact (h5 k hk).2 e'
    · have := hl k hk
      omega
  · rcases hG k hk with e | e
    · have := h6 k e
      omega
    · omega
theorem HeldG.below (h : HeldG w0 w gd gq S Q G) (hb : Below w.heap.size w w') : HeldG w0 w' gd gq S Q G := h.ours (.of_below hb) fun k hk => .inl hk
theorem Kept.below (hG : ∀ k, G k → k < w.heap.size) (hb : Below w.heap.size w w') : Kept G w w' := ⟨fun k hk => hb.block k (hG k hk), hb.size⟩
theorem Kept.trans {w'' : World} (h : Kept G w w') (k : Kept G w' w'') : Kept G w w'' := ⟨fun j hj => (k.1 j hj).trans (h.1 j hj), Nat.le_trans h.2 k.2⟩
/-- Something is done to the disk and to the segment's block. -/
theorem HeldG.turn {F F' : Nat → Prop} (h1 : DskAt F w gd S) (h2 : SBox w gq gd Q) (h3 : Below w0.heap.size w0 w) (h4 : w0.heap.size ≤ gq ∧ ¬ F gq ∧ ¬ G gq) (h5 : ∀ k, F k → w0.heap.size ≤ k ∧ ¬ G k) (h6 : ∀ k, G k → w0.heap.size ≤ k ∧ k < w.heap.size)
    (g1 : DskAt F' w' gd S') (g2 : ∀ k, F' k → F k ∨ w.heap.size ≤ k) (hq : SBox w' gq gd Q') (ho : Only (fun k => F k ∨ k = gq) w w') : HeldG w0 w' gd gq S' Q' G ∧ Kept G w w' := by
  have hlq := h2.lt
  have h0 := h3.size
  have hs := ho.size
  refine ⟨⟨F', g1, hq, bbt' h3 ho (by rintro k (e | e); exact (h5 k e).1; exact e ▸ h4.1), ⟨h4.1, fun e => ?_, h4.2.2⟩, fun k hk => ?_, fun k hk => by have := h6 k hk; omega⟩, fun k hk => ho.block k (h6 k hk).2 ?_, hs⟩
  · rcases g2 _ e with e' | e'
    · exact h4.2.1 e'
    · omega
  · rcases g2 k hk with e | e
    · exact h5 k e
    · exact ⟨by omega, fun e' => by have := h6 k e'; omega⟩
  · rintro (e | e)
    · exact (h5 k e).2 hk
    · exact h4.2.2 (e ▸ hk)
theorem HeldG.add (h : HeldG w0 w gd gq S Q G) {A : Option Addr} {n c : Nat} {R : Nat → RowD} (hR : ∀ u, Kept G w u → RowsIn u A n R) (hn : n ≤ 100000) (hP : S.P.length ≤ 900000) :
    Calls Try.prog 38 #[.pointer (some ⟨gq, 0, none⟩), .slice A n c] w fun e w' => ∃ S' Q' k, e = .returned (.int .i64 k) ∧ AddS S Q n R S' Q' k ∧ HeldG w0 w' gd gq S' Q' G ∧ Kept G w w' := by
  obtain ⟨F, h1, h2, h3, h4, h5, h6⟩ := h
  refine (add_any h1 h2 h4.2.1 (fun V hV => hR V ⟨fun k hk => hV.block k (h6 k hk).2 fun e => (h5 k e).2 hk, hV.size⟩) hn hP).mono ?_
  rintro e w' ⟨S', Q', k, rfl, ha, hq, ⟨F', g1, g2⟩, ho⟩
  exact ⟨S', Q', k, rfl, ha, HeldG.turn h1 h2 h3 h4 h5 h6 g1 g2 hq ho⟩
end
end Go.Proofs.Ytmcbmbcfgefocaa

/- Contracts: need, clones. -/
namespace Go.Proofs.Ytmcbmbcfgefocaa
open Go.RowKit Go.Shelf
set_option linter.unusedSimpArgs false
set_option linter.unusedVariables false

open Classical in
/-- How need ends. -/
noncomputable def needE (n : Nat) (R : Nat → RowD) : Ending := if ∃ i, i < n ∧ needF (R i).n = 0 then refE 1 else .returned (.int .i64 (sumN R n : Nat))
set_option maxRecDepth 100000 in
set_option maxHeartbeats 2000000 in
theorem lneed_any (A : Option Addr) (n c : Nat) (R : Nat → RowD) {w : World} (hr : RowsIn w A n R) (hn : n ≤ 100000) : Calls Try.prog 26 #[.slice A n c] w fun e w' => e = needE n R ∧ w = w' := by
  have HR := Lib.hid hr
  clear hr
  go_enter Try.func26, Try.ntmps26
  go_wp2
  go_loopw [3, 9] (fun v5 v11 wr => ∃ k : Nat, k ≤ n ∧ v11 = .int .i64 (k : Nat) ∧ v5 = .int .i64 (sumN R k : Nat) ∧ (∀ i, i < k → needF (R i).n ≠ 0) ∧ wr = w) (fun _ v11 _ => n - (intOf v11).toNat)
  case atStart => exact ⟨0, Nat.zero_le _, rfl, rfl, fun i hi => absurd hi (by omega), rfl⟩
  case round =>
    obtain ⟨k, hk, rfl, rfl, hok, rfl⟩ := hrel
    have HOK := Lib.hid hok
    have hsm := sumN_le R k
    clear hok
    by_cases hlt : k < n
    · obtain ⟨ad, rfl, h1, h2, h3⟩ := HR.out k hlt
      have HS := Lib.hid (show sumN R (k + 1) = sumN R k + needF (R k).n from rfl)
      have hnf := need_few (R k).n
      have HND : Hid (∀ u : World, Calls Try.prog 45 #[.int .i64 ((R k).n : Nat)] u fun e w' => e = .returned (.int .i64 (needF (R k).n : Nat)) ∧ u = w') := fun u => (need_any (R k).n u h3).mono fun e w' h => ⟨h.1, h.2.symm⟩
      clear h2
      by_cases hz : needF (R k).n = 0
      · have hz1 : ((needF (R k).n : Int) == 0) = true := by rw [beq_iff_eq]; omega
        have HT : Hid (needE n R = refE 1) := if_pos ⟨k, hlt, hz⟩
        generalize needF (R k).n = nd at *
        clear hz
        go_wp2_with (go_at_call 45; refine (HND.out _).mono ?_; rintro e w' ⟨rfl, rfl⟩)
        exact ⟨rfl, HT.out.symm, rfl⟩
      · have hz1 : ((needF (R k).n : Int) == 0) = false := by rw [beq_eq_false_iff_ne]; omega
        have HOK2 : Hid (∀ i, i < k + 1 → needF (R i).n ≠ 0) := fun i hi => by
          by_cases hik : i < k
          · exact HOK.out i hik
          · obtain rfl : i = k := by omega
            exact hz
        generalize needF (R k).n = nd at *
        clear hz
        go_wp2_with (go_at_call 45; refine (HND.out _).mono ?_; rintro e w' ⟨rfl, rfl⟩)
        go_roundw
        case rel => exact ⟨k + 1, by omega, by go_num, by rw [HS.out]; go_num, HOK2.out, by first | trivial | rfl⟩
        case measure => simp [intOf]; omega
    · obtain rfl : k = n := by omega
      have HT : Hid (needE k R = .returned (.int .i64 (sumN R k : Nat))) := if_neg fun ⟨i, h1, h2⟩ => HOK.out i h1 h2
      go_wp2
      go_ret
      exact ⟨HT.out.symm, rfl⟩
end Go.Proofs.Ytmcbmbcfgefocaa

/- Lists of rows of bytes in blocks that are ours. -/
namespace Go.Proofs.Ytmcbmbcfgefocaa
open Go.RowKit
set_option linter.unusedSimpArgs false
set_option linter.unusedVariables false

/-- A list of rows of bytes, it and its rows in blocks of G. -/
def ListG (G : Nat → Prop) (w : World) (base : Nat) (v : Value) (rs : List Rec) : Prop :=
  ∃ vs : List Value, w.ownsRow base 35 1 v rs.length vs ∧ (∀ k, v.ownBlock = some k → G k) ∧ ∀ (i : Nat) (r : Rec), rs[i]? = some r → ∃ u, vs[i]? = some u ∧ Byt w u r.1 r.2 ∧ Typ8 w u ∧ r.1 ≤ 1000000 ∧ ∀ k, u.ownBlock = some k → G k
theorem byt_kept {G : Nat → Prop} {w w' : World} {u : Value} {n : Nat} {f : Nat → Nat} (h : Byt w u n f) (ht : Typ8 w u) (hg : ∀ k, u.ownBlock = some k → G k) (hk : ∀ k, G k → k < w.heap.size → w'.heap[k]? = w.heap[k]?) : Byt w' u n f ∧ Typ8 w' u := by
  obtain ⟨A, c, rfl, hc, hr, hf⟩ := h
  refine ⟨⟨A, c, rfl, hc, fun j hj => ?_, hf⟩, fun k e => ?_⟩
  · obtain ⟨ad, e, hcell⟩ := hr j hj
    have hlt := block_lt_of_cell hcell
    rw [add_block] at hlt
    refine ⟨ad, e, (World.cell?_of_block ?_).trans hcell⟩
    rw [add_block]
    exact hk _ (hg _ (by rw [e]; rfl)) hlt
  · obtain ⟨cs, m, h⟩ := ht k e
    exact ⟨cs, m, (hk k (hg k e) (Array.getElem?_eq_some_iff.1 h).1).trans h⟩
section
variable {G G' : Nat → Prop} {w w' : World} {base : Nat} {v v' : Value} {rs : List Rec}
theorem ListG.keep (h : ListG G w base v rs) (hk : ∀ k, G k → k < w.heap.size → w'.heap[k]? = w.heap[k]?) : ListG G w' base v rs := by
  obtain ⟨vs, h1, h2, h3⟩ := h
  refine ⟨vs, ⟨h1.1, ?_⟩, h2, fun i r hi => ?_⟩
  · rcases h1.2 with hn | ⟨g, c, cur, rfl, a1, a2, r⟩
    · exact .inl hn
    · exact .inr ⟨g, c, cur, rfl, a1, (hk g (h2 g rfl) (Array.getElem?_eq_some_iff.1 a2).1).trans a2, r⟩
  · obtain ⟨u, hu, hb, ht, hl, hg⟩ := h3 i r hi
    obtain ⟨hb', ht'⟩ := byt_kept hb ht hg hk
    exact ⟨u, hu, hb', ht', hl, hg⟩
theorem ListG.below (h : ListG G w base v rs) (hb : Below w.heap.size w w') : ListG G w' base v rs := h.keep fun k _ hl => hb.block k hl
theorem ListG.form (h : ListG G w base v rs) : ∃ A c, v = .slice A rs.length c := by
  obtain ⟨vs, h1, h2, h3⟩ := h
  rcases h1.2 with ⟨e, h0⟩ | ⟨g, c, cur, e, _⟩
  · exact ⟨none, 0, by rw [e, h0]⟩
  · exact ⟨_, c, e⟩
theorem ListG.by_ (h : ListG G w base v rs) : RowsBy w v rs := by
  obtain ⟨vs, h1, h2, h3⟩ := h
  rcases h1.2 with ⟨e, h0⟩ | ⟨g, c, cur, e, _⟩
  · refine ⟨none, 0, by rw [e, h0], fun i r hi => ?_⟩
    have hlt : i < rs.length := (List.getElem?_eq_some_iff.1 hi).1
    omega
  · refine ⟨_, c, e, fun i r hi => ?_⟩
    obtain ⟨u, hu, hb, ht, hl, hg⟩ := h3 i r hi
    have h1' := h1
    rw [e] at h1'
    exact ⟨_, u, rfl, h1'.cells rfl i u hu, hb, by omega⟩
/-- A row is appended. -/
theorem ListG.snoc {vs : List Value} {u : Value} {r : Rec} (h1 : w.ownsRow base 35 1 v rs.length vs) (h2 : ∀ k, v.ownBlock = some k → G k) (h3 : ∀ (i : Nat) (r : Rec), rs[i]? = some r → ∃ u, vs[i]? = some u ∧ Byt w u r.1 r.2 ∧ Typ8 w u ∧ r.1 ≤ 1000000 ∧ ∀ k, u.ownBlock = some k → G k)
    (hb : Byt w u r.1 r.2) (ht : Typ8 w u) (hl : r.1 ≤ 1000000) (hg : ∀ k, u.ownBlock = some k → G k)
    (hown : w'.ownsRow base 35 1 v' (rs.length + 1) (vs ++ [u])) (hgr : w.grownBy w' v.ownBlock) (hat : v'.ownBlock = v.ownBlock ∨ v'.ownBlock = some w.heap.size) (hG : ∀ k, G k → G' k) (hN : w.heap.size < w'.heap.size → G' w.heap.size) : ListG G' w' base v' (rs ++ [r]) := by
  have key : ∀ (u : Value) (r : Rec), Byt w u r.1 r.2 → Typ8 w u → Byt w' u r.1 r.2 ∧ Typ8 w' u := fun u r hb ht => by
    refine byt_kept (G := fun k => u.ownBlock = some k) hb ht (fun k e => e) fun k e hlt => hgr.block k hlt fun e' => ?_
    obtain ⟨cs, m, h⟩ := ht k e
    rcases h1.2 with ⟨e1, _⟩ | ⟨g, c, cur, e1, _, hgb, _⟩
    · rw [e1] at e'
      cases e'
    · rw [e1] at e'
      have : k = g := by simpa [Value.ownBlock] using e'
      subst this
      rw [h] at hgb
      injection hgb with hgb
      injection hgb with _ ht2
      exact absurd ht2 (by decide)
  have hvl : vs.length = rs.length := by have := h1.1; simpa using this
  refine ⟨vs ++ [u], by rw [List.length_append]; exact hown, fun k e => ?_, fun i r' hi => ?_⟩
  · rcases hat with e' | e'
    · exact hG k (h2 k (e' ▸ e))
    · rw [e'] at e
      injection e with e
      subst e
      refine hN ?_
      rcases hown.2 with ⟨e1, _⟩ | ⟨g, c, cur, e1, _, hgb, _⟩
      · rw [e1] at e'; cases e'
      · rw [e1] at e'
        have : g = w.heap.size := by simpa [Value.ownBlock] using e'
        subst this
        exact (Array.getElem?_eq_some_iff.1 hgb).1
  · by_cases hlt : i < rs.length
    · rw [List.getElem?_append_left hlt] at hi
      obtain ⟨u', a1, a2, a3, a4, a5⟩ := h3 i r' hi
      obtain ⟨a6, a7⟩ := key u' r' a2 a3
      exact ⟨u', by rw [List.getElem?_append_left (by omega)]; exact a1, a6, a7, a4, fun k e => hG k (a5 k e)⟩
    · have hil := (List.getElem?_eq_some_iff.1 hi).1
      simp at hil
      obtain rfl : i = rs.length := by omega
      simp at hi
      subst hi
      obtain ⟨a6, a7⟩ := key u r hb ht
      exact ⟨u, by rw [← hvl]; simp, a6, a7, hl, fun k e => hG k (hg k e)⟩
end
end Go.Proofs.Ytmcbmbcfgefocaa

/- SegFills: what its round needs. -/
namespace Go.Proofs.Ytmcbmbcfgefocaa
open Go.RowKit
set_option linter.unusedSimpArgs false
set_option linter.unusedVariables false

theorem need_pos {n : Nat} (h1 : 1 ≤ n) (h2 : n ≤ 392) : needF n ≠ 0 ∧ needF n ≤ 8 := by unfold needF; rw [if_neg (by omega)]; omega
theorem takes_row {Q : QS} {A : Option Addr} {n c : Nat} {f : Nat → Nat} (h1 : 1 ≤ n) (h2 : n ≤ 392) (ht : Q.top < 4294967295) : takesC Q 1 (fun _ => ⟨A, n, c, f⟩) = if Q.behind - Q.ende < needF n then 3 else 0 := by
  have hs : sumN (fun _ => (⟨A, n, c, f⟩ : RowD)) 1 = needF n := by show 0 + needF n = _; omega
  unfold takesC
  rw [hs, if_neg]
  · by_cases h : Q.behind - Q.ende < needF n
    · rw [if_pos (.inl h), if_pos h]
    · rw [if_neg (by omega), if_neg h]
  · rintro ⟨i, _, h⟩
    exact (need_pos h1 h2).1 h
end Go.Proofs.Ytmcbmbcfgefocaa
