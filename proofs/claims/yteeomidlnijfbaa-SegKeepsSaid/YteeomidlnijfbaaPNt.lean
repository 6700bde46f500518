/- What a scan finds of records that were added. -/
import Derived.Test.YteeomidlnijfbaaPNp
namespace Go.Proofs.Yteeomidlnijfbaa
open Go.RowKit
set_option linter.unusedSimpArgs false
set_option linter.unusedVariables false

/-- A record's cell, encoded and decoded. -/
theorem dec_part {g s n : Nat} {f : Nat → Nat} {k : Nat} {x : CellD} (h : PartOf g s n f k x) (hk : k < needF n) (hg : g < 4294967296) (hs : s < 4294967296) (hf : ∀ j, j < n → f j < 256) : cellB (some (secX x)) = true ∧ PartOf g s n f k (cellX (some (secX x))) := by
  have hm := part_may h hk
  have hl := part_len h hk
  obtain ⟨a1, a2, a3, a4, a5, a6⟩ := h
  have hxf : ∀ j, j < x.n → x.f j < 256 := fun j hj => by
    rw [a6 j hj]
    exact hf _ (by omega)
  have e : secX x = sectF g s k (needF n) x.n x.f := by
    unfold secX
    rw [a1, a2, a3, a4]
    rfl
  rw [a3, a4] at hm
  obtain ⟨d0, d1, d2, d3, d4, d5, d6⟩ := sect_dec hg hs hm hxf
  rw [← e] at d0 d1 d2 d3 d4 d5 d6
  have hx : secD (some (secX x)) = some (decX (secX x)) := secD_yes d0
  refine ⟨by unfold cellB; rw [hx]; rfl, ?_⟩
  unfold cellX
  rw [hx]
  refine ⟨d1, d2, by show ((secX x 12 : Nat) : Int) = _; rw [d3], by show ((secX x 13 : Nat) : Int) = _; rw [d4], by show secX x 14 = _; rw [d5]; exact a5, fun j hj => ?_⟩
  have hj : j < secX x 14 := hj
  rw [d5] at hj
  exact (d6 j hj).trans (a6 j hj)
def recsOf (R : Nat → RowD) (n : Nat) : List Rec := (List.range n).map fun i => ((R i).n, (R i).f)
/-- The cells of records lie from sector e on. -/
def NewAt (T : Nat → Option (Nat → Nat)) (gen top e : Nat) (R : Nat → RowD) (n : Nat) : Prop := ∀ i k, i < n → k < needF (R i).n → ∃ x, T (e + sumN R i + k) = some (secX x) ∧ PartOf gen (top + 1 + i) (R i).n (R i).f k x
section
variable {T : Nat → Option (Nat → Nat)} {b gen top e n : Nat} {R : Nat → RowD}
theorem new_rec (hz : ∀ i, i < n → needF (R i).n ≠ 0) (hf : ∀ i, i < n → ∀ j, j < (R i).n → (R i).f j < 256) (hg : gen < 4294967296) (ht : top + n < 4294967296) (h : NewAt T gen top e R n) {i : Nat} (hi : i < n) (hb : e + sumN R (i + 1) ≤ b) {last : Nat} (hl : last ≤ top + i) :
    recP T b gen (e + sumN R i) last (needF (R i).n) ∧ SameR ((R i).n, (R i).f) (recR T (e + sumN R i) (needF (R i).n)) ∧ (cellX (T (e + sumN R i))).s = top + (i + 1) := by
  have hp : ∀ k, k < needF (R i).n → cellB (T (e + sumN R i + k)) = true ∧ PartOf gen (top + 1 + i) (R i).n (R i).f k (cellX (T (e + sumN R i + k))) := fun k hk => by
    obtain ⟨x, hx, hpx⟩ := h i k hi hk
    rw [hx]
    exact dec_part hpx hk hg (by omega) (hf i hi)
  have h0 := (hp 0 (by have := hz i hi; omega)).2
  have hz0 : e + sumN R i + 0 = e + sumN R i := rfl
  rw [hz0] at h0
  obtain ⟨j1, j2, j3⟩ := parts_join (X := fun k => cellX (T (e + sumN R i + k))) (hz i hi) fun k hk => (hp k hk).2
  have hs : sumN R (i + 1) = sumN R i + needF (R i).n := rfl
  have h1 : (cellX (T (e + sumN R i))).s = top + 1 + i := h0.2.1
  exact ⟨⟨by omega, fun k hk => (hp k hk).1, j1, h0.1, by omega⟩, ⟨j2.symm, fun j hj => (j3 j hj).symm⟩, by omega⟩
theorem scn_new (hz : ∀ i, i < n → needF (R i).n ≠ 0) (hf : ∀ i, i < n → ∀ j, j < (R i).n → (R i).f j < 256) (hg : gen < 4294967296) (ht : top + n < 4294967296) (h : NewAt T gen top e R n) (hb : e + sumN R n ≤ b) (hgr : e + sumN R n < b → cellB (T (e + sumN R n)) = true → (cellX (T (e + sumN R n))).s ≤ top + n) :
    ∀ (m i : Nat), i + m = n → ∀ last, (0 < m → last ≤ top + i) → (m = 0 → last = top + n) → ∃ rs, SameL ((List.range' i m).map fun i => ((R i).n, (R i).f)) rs ∧ Scn T b gen (e + sumN R i) last rs (e + sumN R n) (top + n)
  | 0, i, hi, last, _, h2 => by
    obtain rfl : i = n := by omega
    rw [h2 rfl]
    exact ⟨[], trivial, .none_ hgr⟩
  | m + 1, i, hi, last, h1, _ => by
    have hb' : e + sumN R (i + 1) ≤ b := Nat.le_trans (Nat.add_le_add_left (sumN_mono R (by omega)) _) hb
    obtain ⟨a1, a2, a3⟩ := new_rec hz hf hg ht h (by omega) hb' (h1 (by omega))
    obtain ⟨rs, hs, hk⟩ := scn_new hz hf hg ht h hb hgr m (i + 1) (by omega) (top + (i + 1)) (fun _ => Nat.le_refl _) (fun e => by omega)
    refine ⟨_ :: rs, ⟨a2, hs⟩, .more a1 ?_⟩
    rw [a3, show e + sumN R i + needF (R i).n = e + sumN R (i + 1) from by show _ = e + (sumN R i + _); omega]
    exact hk
end
/-- All cells' numbers are at most this. -/
def Most (T : Nat → Option (Nat → Nat)) (first b l : Nat) : Prop := ∀ k, first ≤ k → k < b → cellB (T k) = true → (cellX (T k)).s ≤ l
theorem most_top (T : Nat → Option (Nat → Nat)) (first : Nat) : ∀ m, Most T first (first + m) (topOf T first m)
  | 0 => fun k h1 h2 => by omega
  | m + 1 => fun k h1 h2 h3 => by
    have ih := most_top T first m
    unfold topOf
    by_cases e : k = first + m
    · subst e
      rw [if_pos h3]
      exact Nat.le_max_right _ _
    · have := ih k h1 (by omega) h3
      split
      · exact Nat.le_trans this (Nat.le_max_left _ _)
      · exact this
theorem sum_uniq {R : Nat → RowD} {i k i' k' : Nat} (hk : k < needF (R i).n) (hk' : k' < needF (R i').n) (h : sumN R i + k = sumN R i' + k') : i = i' ∧ k = k' := by
  have key : ∀ a b, a < b → sumN R a + needF (R a).n ≤ sumN R b := fun a b hab => sumN_mono R (a := a + 1) hab
  rcases Nat.lt_trichotomy i i' with c | c | c
  · have := key _ _ c
    omega
  · subst c
    exact ⟨rfl, by omega⟩
  · have := key _ _ c
    omega
section
variable {S : DS} {Q : QS} {n : Nat} {R : Nat → RowD} {xs : List CellD}
/-- The sectors behind writes of cells of records. -/
theorem new_at (hg : S.gone = false) (hc : wrC S Q.ende xs) (hs : ∀ (j : Nat) (y : CellD), xs[j]? = some y → Says Q n R j y) (hl : xs.length = sumN R n) :
    NewAt (rdS (wrS S Q.ende xs)) Q.gen Q.top Q.ende R n ∧ ∀ j, j < Q.ende ∨ Q.ende + sumN R n ≤ j → rdS (wrS S Q.ende xs) j = rdS S j := by
  obtain ⟨_, _, _, h4⟩ := rdS_wrS xs S Q.ende hg hc
  refine ⟨fun i k hi hk => ?_, fun j hj => ?_⟩
  · have hlt := sumN_lt R hi hk
    obtain ⟨x, hx⟩ : ∃ x, xs[sumN R i + k]? = some x := ⟨xs[sumN R i + k]'(by omega), List.getElem?_eq_getElem (by omega)⟩
    obtain ⟨i', k', hi', hk', he, hp⟩ := hs _ _ hx
    obtain ⟨rfl, rfl⟩ := sum_uniq hk hk' he
    refine ⟨x, ?_, hp⟩
    rw [h4, if_pos (by omega), show Q.ende + sumN R i + k - Q.ende = sumN R i + k from by omega, hx]
  · rw [h4]
    split
    · rw [List.getElem?_eq_none (by omega)]
    · rfl
/-- What is scanned behind records that were added. -/
theorem scn_kept (hq : Q.ok) (hg : S.gone = false) {rs : List Rec} {l : Nat} (hn0 : n ≠ 0) (h : Scn (rdS S) Q.behind Q.gen Q.first 0 rs Q.ende l) (hlt : l ≤ Q.top) (hm : Most (rdS S) Q.first Q.behind Q.top) (htk : takesC Q n R = 0) (hf : ∀ i, i < n → ∀ j, j < (R i).n → (R i).f j < 256)
    (hc : wrC S Q.ende xs) (hs : ∀ (j : Nat) (y : CellD), xs[j]? = some y → Says Q n R j y) (hl : xs.length = sumN R n) (hk : (wrS S Q.ende xs).flush.2 = 0) :
    (wrS S Q.ende xs).flush.1.gone = false ∧ (∃ rs', SameL (rs ++ recsOf R n) rs' ∧ Scn (rdS (wrS S Q.ende xs).flush.1) Q.behind Q.gen Q.first 0 rs' (Q.ende + sumN R n) (Q.top + n)) ∧ Most (rdS (wrS S Q.ende xs).flush.1) Q.first Q.behind (Q.top + n) := by
  obtain ⟨t1, t2, t3⟩ := takes_yes htk
  obtain ⟨q1, q2, q3, q4, q5⟩ := hq
  obtain ⟨f1, f2, f3⟩ := rdS_flush hk
  have eT : rdS (wrS S Q.ende xs).flush.1 = rdS (wrS S Q.ende xs) := funext f3
  rw [eT]
  obtain ⟨n1, n2⟩ := new_at hg hc hs hl
  have ht : Q.top + n < 4294967296 := by omega
  have hmost : Most (rdS (wrS S Q.ende xs)) Q.first Q.behind (Q.top + n) := fun k h1 h2 h3 => by
    by_cases hin : k < Q.ende ∨ Q.ende + sumN R n ≤ k
    · rw [n2 k hin] at h3 ⊢
      exact Nat.le_trans (hm k h1 h2 h3) (Nat.le_add_right _ _)
    · have hex : ∀ m, k < Q.ende + sumN R m → m ≤ n → ∃ i j, i < n ∧ j < needF (R i).n ∧ k = Q.ende + sumN R i + j := by
        intro m
        induction m with
        | zero => intro h _; have : sumN R 0 = 0 := rfl; omega
        | succ m ih =>
          intro h hmn
          by_cases hh : k < Q.ende + sumN R m
          · exact ih hh (by omega)
          · have : sumN R (m + 1) = sumN R m + needF (R m).n := rfl
            exact ⟨m, k - (Q.ende + sumN R m), by omega, by omega, by omega⟩
      obtain ⟨i, j, hi, hj, rfl⟩ := hex n (by omega) (Nat.le_refl _)
      obtain ⟨x, hx, hpx⟩ := n1 i j hi hj
      rw [hx]
      have := (dec_part hpx hj q4 (by omega) (hf i hi)).2.2.1
      omega
  have hse : Q.ende + sumN R n ≤ Q.behind := by omega
  obtain ⟨rs1, hs1, hk1⟩ := scn_new (b := Q.behind) (T := rdS (wrS S Q.ende xs)) t1 hf q4 ht n1 hse (fun h1 h2 => hmost _ (by omega) h1 h2) n 0 (by omega) l (fun _ => by omega) (fun e => absurd e hn0)
  obtain ⟨rs0, hs0, hk0⟩ := h.front (by omega) (fun k h1 h2 => (n2 k (.inl h2)).symm) hk1
  refine ⟨f2, ⟨rs0 ++ rs1, hs0.app ?_, hk0⟩, hmost⟩
  unfold recsOf
  rw [List.range_eq_range']
  exact hs1
end
end Go.Proofs.Yteeomidlnijfbaa

/- A disk with a segment, and what lies beside them: the contracts in one word. -/
namespace Go.Proofs.Yteeomidlnijfbaa
open Go.RowKit
set_option linter.unusedSimpArgs false
set_option linter.unusedVariables false

/-- A disk and a segment of it, all of it new behind w0; and a saying on memory beside them, which stays whatever is done to the two. -/
def HeldS (w0 w : World) (gd gq : Nat) (S : DS) (Q : QS) (Φ : World → Prop) : Prop :=
  ∃ F Z : Nat → Prop, DskAt F w gd S ∧ SBox w gq gd Q ∧ Below w0.heap.size w0 w ∧ (w0.heap.size ≤ gq ∧ ¬ F gq ∧ ¬ Z gq) ∧ (∀ k, F k → w0.heap.size ≤ k ∧ ¬ Z k) ∧ (∀ k, Z k → k < w.heap.size) ∧ ∀ w', (∀ k, Z k → w'.heap[k]? = w.heap[k]?) → w.heap.size ≤ w'.heap.size → Φ w'
theorem bbt' {w0 w w' : World} {F : Nat → Prop} (h : Below w0.heap.size w0 w) (k : Only F w w') (hF : ∀ k, F k → w0.heap.size ≤ k) : Below w0.heap.size w0 w' :=
  ⟨k.os.trans h.os, k.tape.trans h.tape, k.output.trans h.output, Nat.le_trans h.size k.size, fun j hj => (k.block j (Nat.lt_of_lt_of_le hj h.size) fun e => by have := hF j e; omega).trans (h.block j hj)⟩
section
variable {w0 w w' : World} {gd gq : Nat} {S S' : DS} {Q Q' : QS} {Φ Ψ : World → Prop}
/-- A segment is made. -/
theorem HeldS.of (h : Held w0 w gd S Φ) (hb : Below w.heap.size w w') (hg : w.heap.size ≤ gq) (hq : SBox w' gq gd Q) : HeldS w0 w' gd gq S Q Φ := by
  obtain ⟨F, Z, h1, h2, h3, h4, h5⟩ := h
  have hl := h1.lt
  have h0 := h2.size
  refine ⟨F, Z, h1.keep (fun k hk => hb.block k (hl k hk)) hb.size, hq, bbt h2 hb, ⟨by omega, fun e => ?_, fun e => ?_⟩, h3, fun k hk => ?_, fun u hu hs => h5 u (fun k hk => (hu k hk).trans (hb.block k (h4 k hk))) (Nat.le_trans hb.size hs)⟩
  · have := hl _ e
    omega
  · have := h4 _ e
    omega
  · have := h4 k hk
    have := hb.size
    omega
theorem HeldS.bel (h : HeldS w0 w gd gq S Q Φ) : Below w0.heap.size w0 w := by
  obtain ⟨F, Z, h1, h2, h3, h4, h5, h6, h7⟩ := h
  exact h3
theorem HeldS.box (h : HeldS w0 w gd gq S Q Φ) : SBox w gq gd Q := by
  obtain ⟨F, Z, h1, h2, h3, h4, h5, h6, h7⟩ := h
  exact h2
theorem HeldS.dsk (h : HeldS w0 w gd gq S Q Φ) : ∃ F, DskAt F w gd S := by
  obtain ⟨F, Z, h1, h2, h3, h4, h5, h6, h7⟩ := h
  exact ⟨F, h1⟩
/-- Memory has grown beside them, and more is known of it. -/
theorem HeldS.more (h : HeldS w0 w gd gq S Q Φ) (hb : Below w.heap.size w w') (hp : ∀ u, (∀ k, w.heap.size ≤ k → k < w'.heap.size → u.heap[k]? = w'.heap[k]?) → w'.heap.size ≤ u.heap.size → Ψ u) : HeldS w0 w' gd gq S Q fun u => Φ u ∧ Ψ u := by
  obtain ⟨F, Z, h1, h2, h3, h4, h5, h6, h7⟩ := h
  have hl := h1.lt
  have hs := hb.size
  have hq := h2.lt
  refine ⟨F, fun k => Z k ∨ (w.heap.size ≤ k ∧ k < w'.heap.size), h1.keep (fun k hk => hb.block k (hl k hk)) hs, h2.below hb, bbt h3 hb, ⟨h4.1, h4.2.1, ?_⟩, fun k hk => ⟨(h5 k hk).1, ?_⟩, fun k hk => ?_, fun u hu hsz => ⟨?_, ?_⟩⟩
  · rintro (e | e)
    · exact h4.2.2 e
    · omega
  · rintro (e | e)
    · exact (h5 k hk).2 e
    · have := hl k hk; omega
  · rcases hk with e | e
    · have := h6 k e; omega
    · exact e.2
  · exact h7 u (fun k hk => (hu k (.inl hk)).trans (hb.block k (h6 k hk))) (by omega)
  · exact hp u (fun k hk hk2 => hu k (.inr ⟨hk, hk2⟩)) hsz
theorem HeldS.imp (h : HeldS w0 w gd gq S Q Φ) (hp : ∀ u, Φ u → Ψ u) : HeldS w0 w gd gq S Q Ψ := by
  obtain ⟨F, Z, h1, h2, h3, h4, h5, h6, h7⟩ := h
  exact ⟨F, Z, h1, h2, h3, h4, h5, h6, fun u a b => hp u (h7 u a b)⟩
theorem HeldS.below (h : HeldS w0 w gd gq S Q Φ) (hb : Below w.heap.size w w') : HeldS w0 w' gd gq S Q Φ :=
  (h.more (Ψ := fun _ => True) hb (fun _ _ _ => trivial)).imp fun _ h => h.1
end
end Go.Proofs.Yteeomidlnijfbaa

/- Contract: the document's Alike, of lists of rows that are alike. -/
namespace Go.Proofs.Yteeomidlnijfbaa
open Go.RowKit
set_option linter.unusedSimpArgs false
set_option linter.unusedVariables false

/-- A list of rows of bytes, wherever it lies. -/
def RowsBy (w : World) (v : Value) (rs : List Rec) : Prop :=
  ∃ A c, v = .slice A rs.length c ∧ ∀ (i : Nat) (r : Rec), rs[i]? = some r → ∃ ad u, A = some ad ∧ w.cell? (ad.add i) = some u ∧ Byt w u r.1 r.2 ∧ r.1 ≤ 9223372036854775807
theorem RowsBy.below {w w' : World} {v : Value} {rs : List Rec} (h : RowsBy w v rs) (hb : Below w.heap.size w w') : RowsBy w' v rs := by
  obtain ⟨A, c, e, h⟩ := h
  refine ⟨A, c, e, fun i r hi => ?_⟩
  obtain ⟨ad, u, e1, h1, h2, h3⟩ := h i r hi
  exact ⟨ad, u, e1, (hb.cell (block_lt_of_cell h1)).trans h1, h2.below hb, h3⟩
theorem SameL.at_ : ∀ {l l' : List Rec}, SameL l l' → ∀ {i : Nat} {r : Rec}, l[i]? = some r → ∃ r', l'[i]? = some r' ∧ SameR r r'
  | [], [], _, _, _, h => by simp at h
  | x :: _, y :: _, h, 0, r, hr => by
    rw [List.getElem?_cons_zero] at hr
    cases hr
    exact ⟨y, List.getElem?_cons_zero, h.1⟩
  | x :: _, y :: _, h, i + 1, r, hr => by
    rw [List.getElem?_cons_succ] at hr
    obtain ⟨r', h1, h2⟩ := SameL.at_ h.2 hr
    exact ⟨r', by rw [List.getElem?_cons_succ]; exact h1, h2⟩
set_option maxRecDepth 100000 in
set_option maxHeartbeats 2000000 in
theorem alikeL_yes {w : World} {u v : Value} {rs rs' : List Rec} (hu : RowsBy w u rs) (hv : RowsBy w v rs') (hs : SameL rs rs') (hn : rs.length ≤ 1000000) :
    Calls Try.prog 19 #[u, v] w fun e w' => e = .returned (.bool true) ∧ Below w.heap.size w w' := by
  have hlen := hs.len
  obtain ⟨A, c, rfl, hA⟩ := hu
  obtain ⟨B, d, rfl, hB⟩ := hv
  rw [← hlen]
  have HSB : Hid (∀ k, k < rs.length → ∃ a b A1 c1 B1 d1 m f, A = some a ∧ B = some b ∧ w.cell? (a.add k) = some (.slice A1 m c1) ∧ w.cell? (b.add k) = some (.slice B1 m d1) ∧ m ≤ 9223372036854775807 ∧ Rd .u8 w A1 m f ∧ Rd .u8 w B1 m f) := fun k hk => by
    obtain ⟨r, hr⟩ : ∃ r, rs[k]? = some r := ⟨rs[k], List.getElem?_eq_getElem hk⟩
    obtain ⟨r', hr', hsr⟩ := hs.at_ hr
    obtain ⟨a, u1, e1, h1, ⟨A1, c1, eu, _, hr1, _⟩, hm⟩ := hA k r hr
    obtain ⟨b, u2, e2, h2, ⟨B1, d1, ev, _, hr2, _⟩, _⟩ := hB k r' hr'
    subst eu
    subst ev
    rw [← hsr.1] at h2 hr2
    exact ⟨a, b, A1, c1, B1, d1, r.1, r.2, e1, e2, h1, h2, hm, hr1, hr2.congr fun j hj => (hsr.2 j hj).symm⟩
  obtain ⟨n, hnn⟩ : ∃ n, rs.length = n := ⟨_, rfl⟩
  rw [hnn] at hn HSB ⊢
  clear hA hB hs hlen hnn
  go_enter Try.func19, Try.ntmps19
  go_wp2
  go_loopw [5] (fun x wr => ∃ k : Nat, k ≤ n ∧ x = .int .i64 k ∧ Below w.heap.size w wr) (fun x _ => n - (intOf x).toNat)
  case atStart => exact ⟨0, Nat.zero_le _, rfl, Below.refl _ _⟩
  case round =>
    obtain ⟨k, hk, rfl, hbl⟩ := hrel
    have HBL := Lib.hid hbl
    by_cases hlt : k < n
    · obtain ⟨a, b, A1, c1, B1, d1, m, f, rfl, rfl, y1, y2, hm, hr1, hr2⟩ := HSB.out k hlt
      have HR1 := Lib.hid (hr1.below hbl)
      have HR2 := Lib.hid (hr2.below hbl)
      have z1 := (hbl.cell (block_lt_of_cell y1)).trans y1
      have z2 := (hbl.cell (block_lt_of_cell y2)).trans y2
      clear y1 y2 hr1 hr2 hbl
      have i0 : (0 : Int) ≤ (k : Int) := by omega
      have i1 : (k : Int) < (n : Int) := by omega
      go_wp2
      go_quiet (fail)
      go_wp2
      go_loopw [6] (fun x wq => ∃ j : Nat, j ≤ m ∧ x = .int .i64 j ∧ Below wr.heap.size wr wq) (fun x _ => m - (intOf x).toNat)
      case atStart => exact ⟨0, Nat.zero_le _, rfl, Below.drewN_ (Below.refl _ _) _⟩
      case round =>
        obtain ⟨j, hj, rfl, hbq⟩ := hrel
        have z3 := cell_later hbq z1
        have z4 := cell_later hbq z2
        have HBQ := Lib.hid hbq
        by_cases hjm : j < m
        · obtain ⟨a1, rfl, y1⟩ := (HR1.out.below hbq) j hjm
          obtain ⟨a2, rfl, y2⟩ := (HR2.out.below hbq) j hjm
          clear hbq z1 z2
          go_wp2
          go_quiet (fail)
          go_wp2
          go_roundw
          case rel => exact ⟨j + 1, by omega, by go_num, Below.drewN_ HBQ.out _⟩
          case measure => simp [intOf]; omega
        · obtain rfl : j = m := by omega
          clear hbq z1 z2
          go_wp2
          go_roundw
          case rel => exact ⟨k + 1, by omega, by go_num, bbt HBL.out HBQ.out⟩
          case measure => simp [intOf]; omega
    · obtain rfl : k = n := by omega
      clear hbl
      go_wp2
      go_ret
      exact ⟨rfl, HBL.out⟩
end Go.Proofs.Yteeomidlnijfbaa
