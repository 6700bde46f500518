/- Scan, Add, Free of a disk with a segment; a disk that loses nothing. -/
import Derived.Test.YteeomidlnijfbaaPNt
namespace Go.Proofs.Yteeomidlnijfbaa
open Go.RowKit
set_option linter.unusedSimpArgs false
set_option linter.unusedVariables false

theorem joinN_few {q : Nat} {X : Nat → CellD} (h : joinP q X) : joinN q X q ≤ 1000 := by
  have h0 := h.1
  have h1 := join_few (h.2 (q - 1) (by omega))
  rw [joinN, if_neg (by omega)]
  omega
theorem Scn.few {T : Nat → Option (Nat → Nat)} {b gen i last : Nat} {rs : List Rec} {e l : Nat} (h : Scn T b gen i last rs e l) : ∀ r ∈ rs, r.1 ≤ 1000 := by
  induction h with
  | stop _ => intro r hr; cases hr
  | more h _ ih =>
    intro r hr
    rcases List.mem_cons.1 hr with rfl | hr
    · exact joinN_few h.2.2.1
    · exact ih r hr
theorem RecsAt.by_ {w : World} {base : Nat} {v : Value} {rs : List Rec} (h : RecsAt w base v rs) (hf : ∀ r ∈ rs, r.1 ≤ 1000) : RowsBy w v rs := by
  obtain ⟨A, c, rfl⟩ := h.form
  obtain ⟨vs, ho, hr⟩ := h
  refine ⟨A, c, rfl, fun i r hi => ?_⟩
  obtain ⟨u, hu, hb, _⟩ := hr i r hi
  have hm : r ∈ rs := List.mem_of_getElem? hi
  have hlt : i < rs.length := by
    by_cases e : i < rs.length
    · exact e
    · rw [List.getElem?_eq_none (by omega)] at hi; cases hi
  obtain ⟨g, rfl⟩ : ∃ g, A = some ⟨g, 0, none⟩ := by
    rcases ho.2 with ⟨e, hz⟩ | ⟨g, cap, cur, e, _⟩
    · have := congrArg (fun v => match v with | Value.slice _ n _ => n | _ => 0) e
      simp at this
      rw [this] at hlt
      cases hlt
    · have e : Value.slice A rs.length c = _ := e
      simp at e
      exact ⟨g, e.1⟩
  exact ⟨_, u, rfl, ho.cells rfl i u hu, hb, by have := hf r hm; omega⟩
section
variable {w0 w w' : World} {gd gq : Nat} {S S' : DS} {Q Q' : QS} {Φ Ψ : World → Prop}
theorem HeldS.add (h : HeldS w0 w gd gq S Q Φ) {A : Option Addr} {n c : Nat} {R : Nat → RowD} (hR : ∀ u, Φ u → RowsIn u A n R) (hn : n ≤ 100000) (hP : S.P.length ≤ 900000) :
    Calls Try.prog 16 #[.pointer (some ⟨gq, 0, none⟩), .slice A n c] w fun e w' => ∃ S' Q' k, e = .returned (.int .i64 k) ∧ AddS S Q n R S' Q' k ∧ HeldS w0 w' gd gq S' Q' Φ := by
  have hh := h
  obtain ⟨F, Z, h1, h2, h3, h4, h5, h6, h7⟩ := h
  have hs : ∀ w1, Only F w w1 → Φ w1 := fun w1 ho => h7 w1 (fun k hk => ho.block k (h6 k hk) fun e => (h5 k e).2 hk) ho.size
  refine (add_any h1 h2 h4.2.1 (fun V hV => hR V (hs V hV)) hn hP).mono ?_
  rintro e w' ⟨S', Q', k, rfl, ha, hq, hd, ho⟩
  refine ⟨S', Q', k, rfl, ha, ?_⟩
  have hl := h1.lt
  have hlq := h2.lt
  have h0 := h3.size
  have hsz := ho.size
  obtain ⟨F', g1, g2⟩ := hd
  have hz : ∀ k, Z k → w'.heap[k]? = w.heap[k]? := fun k hk => ho.block k (h6 k hk) (by
    rintro (e | e)
    · exact (h5 k e).2 hk
    · exact h4.2.2 (e ▸ hk))
  refine ⟨F', Z, g1, hq, bbt' h3 ho (by rintro k (e | e); exact (h5 k e).1; exact e ▸ h4.1), ⟨h4.1, fun e => ?_, h4.2.2⟩, fun k hk => ?_, fun k hk => by have := h6 k hk; omega, fun u hu hs2 => h7 u (fun k hk => (hu k hk).trans (hz k hk)) (by omega)⟩
  · rcases g2 _ e with e' | e'
    · exact h4.2.1 e'
    · omega
  · rcases g2 k hk with e | e
    · exact h5 k e
    · exact ⟨by omega, fun e' => by have := h6 k e'; omega⟩
theorem HeldS.scan (h : HeldS w0 w gd gq S Q Φ) (hg : S.gone = false) :
    Calls Try.prog 14 #[.pointer (some ⟨gq, 0, none⟩)] w fun e w' => ∃ rs en v l, e = .returned (.tuple #[v, .int .i64 0]) ∧ Scn (rdS S) Q.behind Q.gen Q.first 0 rs en l ∧ RecsAt w' w.heap.size v rs ∧ HeldS w0 w' gd gq S { Q with ende := en, top := topOf (rdS S) Q.first (Q.behind - Q.first) } Φ := by
  have hh := h
  obtain ⟨F, Z, h1, h2, h3, h4, h5, h6, h7⟩ := h
  refine (scan_any h1 h2 hg).mono ?_
  rintro e w' ⟨rs, en, v, l, rfl, hs, hr, hq, ho⟩
  refine ⟨rs, en, v, l, rfl, hs, hr, ?_⟩
  have hsz := ho.size
  have hz : ∀ k, Z k → w'.heap[k]? = w.heap[k]? := fun k hk => ho.block k (h6 k hk) fun e => h4.2.2 (e ▸ hk)
  exact ⟨F, Z, h1.keep (fun k hk => ho.block k (h1.lt k hk) fun e => h4.2.1 (e ▸ hk)) hsz, hq, bbt' h3 ho (by rintro k rfl; exact h4.1), h4, h5, fun k hk => by have := h6 k hk; omega, fun u hu hs2 => h7 u (fun k hk => (hu k hk).trans (hz k hk)) (by omega)⟩
end
/-- On a disk that loses nothing every write is told OK. -/
theorem write_calm {S : DS} (hg : S.gone = false) (hl : S.left = 0) {i : Nat} (hi : i < S.n) (f : Nat → Nat) : S.write (i : Nat) f = (S.wrote i f, 0) := by
  unfold DS.write
  have hb : hasB S.n (i : Nat) = true := by unfold hasB; rw [decide_eq_true_eq]; omega
  have hk : S.ok = true := by unfold DS.ok; rw [hl]; rfl
  have hbg : S.begun = S := by unfold DS.begun; rw [if_pos hl]
  rw [hg, hb, hk, hbg]
  rfl
theorem wrS_calm : ∀ (xs : List CellD) {S : DS} (e : Nat), S.gone = false → S.left = 0 → e + xs.length ≤ S.n → wrC S e xs ∧ (wrS S e xs).left = 0 ∧ (wrS S e xs).gone = false ∧ (wrS S e xs).n = S.n
  | [], S, e, hg, hl, _ => ⟨trivial, hl, hg, rfl⟩
  | x :: l, S, e, hg, hl, hn => by
    rw [List.length_cons] at hn
    have hw := write_calm hg hl (i := e) (by omega) (secX x)
    obtain ⟨a1, a2, a3, a4⟩ := wrS_calm l (S := S.wrote e (secX x)) (e + 1) hg hl (by show _ ≤ S.n; omega)
    refine ⟨⟨by rw [hw], ?_⟩, ?_⟩
    · show wrC (S.write _ _).1 _ _
      rw [hw]
      exact a1
    · show (wrS (S.write _ _).1 (e + 1) l).left = 0 ∧ (wrS (S.write _ _).1 (e + 1) l).gone = false ∧ (wrS (S.write _ _).1 (e + 1) l).n = S.n
      rw [hw]
      exact ⟨a2, a3, a4⟩
theorem flush_calm {S : DS} (hg : S.gone = false) (hl : S.left = 0) : S.flush = (S.flushed, 0) := by
  unfold DS.flush
  have hk : S.ok = true := by unfold DS.ok; rw [hl]; rfl
  have hbg : S.begun = S := by unfold DS.begun; rw [if_pos hl]
  rw [hg, hk, hbg]
  rfl
/-- What a disk without loss and a segment hold: these records. -/
structure Calm (S : DS) (Q : QS) (rs : List Rec) : Prop where
  gone : S.gone = false
  left : S.left = 0
  P : S.P = []
  ok : Q.ok
  n : Q.behind ≤ S.n
  scn : ∃ rs' l, SameL rs rs' ∧ Scn (rdS S) Q.behind Q.gen Q.first 0 rs' Q.ende l ∧ l ≤ Q.top
  most : Most (rdS S) Q.first Q.behind Q.top
theorem Calm.add {S S' : DS} {Q Q' : QS} {rs : List Rec} {n : Nat} {R : Nat → RowD} {k : Int} (h : Calm S Q rs) (hf : ∀ i, i < n → ∀ j, j < (R i).n → (R i).f j < 256) (ha : AddS S Q n R S' Q' k) :
    (k = takesC Q n R ∧ k ≠ 0 ∧ S' = S ∧ Q' = Q) ∨ (k = 0 ∧ takesC Q n R = 0 ∧ S'.n = S.n ∧ Q' = { Q with ende := Q.ende + sumN R n, top := if n = 0 then Q.top else Q.top + n } ∧ Calm S' Q' (rs ++ recsOf R n)) := by
  obtain ⟨rs', l, hs, hsc, hlt⟩ := h.scn
  have hcap : takesC Q n R = 0 → Q.ende + sumN R n ≤ S.n := fun ht => by
    have := (takes_yes ht).2.1
    have := h.n
    have := h.ok.2.1
    omega
  cases ha with
  | no ht => exact .inl ⟨rfl, ht, rfl, rfl⟩
  | gone _ hg => rw [h.gone] at hg; cases hg
  | none_ ht hg hn =>
    subst hn
    have e0 : sumN R 0 = 0 := rfl
    refine .inr ⟨rfl, ht, rfl, by rw [e0, if_pos rfl]; rfl, ?_⟩
    rw [show recsOf R 0 = [] from rfl, List.append_nil]
    exact h
  | cut ht hg hn pre x hs2 hl hc hk =>
    exfalso
    apply hk
    have hcp := hcap ht
    rw [List.length_append, List.length_singleton] at hl
    obtain ⟨a1, a2, a3, a4⟩ := wrS_calm pre Q.ende h.gone h.left (by omega)
    rw [write_calm a3 a2 (by rw [a4]; omega)]
  | lost ht hg hn xs hs2 hl hc hk =>
    exfalso
    apply hk
    have hcp := hcap ht
    obtain ⟨a1, a2, a3, a4⟩ := wrS_calm xs Q.ende h.gone h.left (by omega)
    rw [flush_calm a3 a2]
  | kept ht hg hn xs hs2 hl hc hk =>
    have hcp := hcap ht
    obtain ⟨a1, a2, a3, a4⟩ := wrS_calm xs Q.ende h.gone h.left (by omega)
    obtain ⟨b1, ⟨rs2, b2, b3⟩, b4⟩ := scn_kept h.ok h.gone hn hsc hlt h.most ht hf hc hs2 hl hk
    have hfl := flush_calm a3 a2
    obtain ⟨t1, t2, t3⟩ := takes_yes ht
    obtain ⟨q1, q2, q3, q4, q5⟩ := h.ok
    refine .inr ⟨rfl, ht, by rw [hfl]; exact a4, by rw [if_neg hn], ?_⟩
    refine ⟨b1, by rw [hfl]; exact a2, by rw [hfl]; rfl, ⟨by show Q.first ≤ Q.ende + _; omega, by show Q.ende + _ ≤ Q.behind; omega, q3, q4, by show Q.top + n < _; omega⟩, by rw [hfl]; show Q.behind ≤ (wrS S Q.ende xs).n; rw [a4]; exact h.n, ⟨rs2, Q.top + n, (hs.app (SameL.refl _)).trans b2, b3, Nat.le_refl _⟩, b4⟩
end Go.Proofs.Yteeomidlnijfbaa

/- A disk that loses nothing: what is scanned of it. -/
namespace Go.Proofs.Yteeomidlnijfbaa
open Go.RowKit
set_option linter.unusedSimpArgs false
set_option linter.unusedVariables false

section
variable {T : Nat → Option (Nat → Nat)} {b gen : Nat}
theorem Scn.last_at {i last : Nat} {rs : List Rec} {e l : Nat} (h : Scn T b gen i last rs e l) : l = last ∨ ∃ k, i ≤ k ∧ k < b ∧ cellB (T k) = true ∧ (cellX (T k)).s = l := by
  induction h with
  | stop _ => exact .inl rfl
  | @more i last q e l rs h _ ih =>
    have hp := h.pos
    have hb := h.1
    rcases ih with e | ⟨k, h1, h2, h3, h4⟩
    · exact .inr ⟨i, Nat.le_refl _, by omega, h.2.1 0 hp, e.symm⟩
    · exact .inr ⟨k, by omega, h2, h3, h4⟩
theorem top_most {first l : Nat} : ∀ m, Most T first (first + m) l → topOf T first m ≤ l
  | 0, _ => Nat.zero_le _
  | m + 1, h => by
    have ih := top_most m fun k h1 h2 h3 => h k h1 (by omega) h3
    unfold topOf
    split
    · rename_i hc
      have := h (first + m) (by omega) (by omega) hc
      omega
    · exact ih
end
theorem Calm.scan {S : DS} {Q : QS} {rs rs2 : List Rec} {en l : Nat} (h : Calm S Q rs) (hs : Scn (rdS S) Q.behind Q.gen Q.first 0 rs2 en l) :
    SameL rs rs2 ∧ en = Q.ende ∧ Calm S { Q with ende := en, top := topOf (rdS S) Q.first (Q.behind - Q.first) } rs := by
  obtain ⟨rs', l', h1, h2, h3⟩ := h.scn
  obtain ⟨rfl, rfl, rfl⟩ := h2.uniq hs
  obtain ⟨q1, q2, q3, q4, q5⟩ := h.ok
  have hfb : Q.first + (Q.behind - Q.first) = Q.behind := by omega
  have ht : topOf (rdS S) Q.first (Q.behind - Q.first) ≤ Q.top := top_most _ (by rw [hfb]; exact h.most)
  have hm : Most (rdS S) Q.first Q.behind (topOf (rdS S) Q.first (Q.behind - Q.first)) := by
    have := most_top (rdS S) Q.first (Q.behind - Q.first)
    rw [hfb] at this
    exact this
  refine ⟨h1, rfl, h.gone, h.left, h.P, ⟨q1, q2, q3, q4, by show topOf _ _ _ < _; omega⟩, h.n, ⟨rs', l', h1, h2, ?_⟩, hm⟩
  rcases h2.last_at with e | ⟨k, k1, k2, k3, k4⟩
  · rw [e]
    exact Nat.zero_le _
  · rw [← k4]
    exact hm k k1 k2 k3
/-- Nothing lies on a segment none of whose sectors is a cell. -/
theorem calm_new {S : DS} {Q : QS} (hg : S.gone = false) (hl : S.left = 0) (hP : S.P = []) (hq : Q.ok) (hn : Q.behind ≤ S.n) (hc : ∀ k, Q.first ≤ k → k < Q.behind → cellB (rdS S k) = false) {rs : List Rec} {en l : Nat} (hs : Scn (rdS S) Q.behind Q.gen Q.first 0 rs en l) :
    rs = [] ∧ en = Q.first ∧ topOf (rdS S) Q.first (Q.behind - Q.first) = 0 ∧ Calm S { Q with ende := en, top := topOf (rdS S) Q.first (Q.behind - Q.first) } [] := by
  obtain ⟨q1, q2, q3, q4, q5⟩ := hq
  have h0 : Scn (rdS S) Q.behind Q.gen Q.first 0 [] Q.first 0 := .none_ fun h1 h2 => by
    rw [hc _ (Nat.le_refl _) h1] at h2
    cases h2
  obtain ⟨rfl, rfl, rfl⟩ := h0.uniq hs
  have hfb : Q.first + (Q.behind - Q.first) = Q.behind := by omega
  have hmo : Most (rdS S) Q.first Q.behind 0 := fun k h1 h2 h3 => by
    rw [hc k h1 h2] at h3
    cases h3
  have ht : topOf (rdS S) Q.first (Q.behind - Q.first) = 0 := Nat.le_zero.1 (top_most _ (by rw [hfb]; exact hmo))
  refine ⟨rfl, rfl, ht, hg, hl, hP, ⟨Nat.le_refl _, by show Q.first ≤ Q.behind; omega, q3, q4, by show topOf _ _ _ < _; rw [ht]; decide⟩, hn, ⟨[], 0, trivial, h0, Nat.zero_le _⟩, ?_⟩
  show Most (rdS S) Q.first Q.behind (topOf _ _ _)
  rw [ht]
  exact hmo
/-- Zeros are no cell. -/
theorem zero_cell : cellB (some fun _ => 0) = false := by
  unfold cellB
  rw [secD_no]
  · rfl
  · intro h
    have h1 : (1 : Int) ≤ 0 := h.2.2.2.1.1
    omega
theorem new_cell (n k : Nat) : cellB (rdS (DS.new n) k) = false := by
  have hz := zero_cell
  unfold rdS DS.read DS.new
  cases hb : hasB n (k : Int) with
  | true => simpa [DS.seen, layT, hb] using hz
  | false => simp [hb, cellB, secD]
end Go.Proofs.Yteeomidlnijfbaa
