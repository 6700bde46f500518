/- What a scan finds of records that were added. -/
import Derived.Test.YtmcbmbcfgefocaaPNp
namespace Go.Proofs.Ytmcbmbcfgefocaa
open Go.RowKit
set_option linter.unusedSimpArgs false
set_option linter.unusedVariables false

/-- A record's cell, encoded and decoded. -/
theorem dec_part {g s n : Nat} {f : Nat → Nat} {k : Nat} {x : CellD} (h : PartOf g s n f k x) (hk : k < needF n) (hg : g < 4294967296) (hs : s < 4294967296) (hf : ∀ j, j < n → f j < 256) : cellB (some (secX x)) = true ∧ PartOf g s n f k (cellX (some (secX x))) := by
  have hm := part_may h hk
  have hl := part_len h hk
  obtain ⟨a1, a2, a3, a4, a5, a6⟩ := h
  have hxf : ∀ j, j < x.n → x.f j < 256 := fun j hj => by
    rw [a6 j hj]
    exact hf _ (by omega)
  have e : secX x = sectF g s k (needF n) x.n x.f := by
    unfold secX
    rw [a1, a2, a3, a4]
    rfl
  rw [a3, a4] at hm
  obtain ⟨d0, d1, d2, d3, d4, d5, d6⟩ := sect_dec hg hs hm hxf
  rw [← e] at d0 d1 d2 d3 d4 d5 d6
  have hx : secD (some (secX x)) = some (decX (secX x)) := secD_yes d0
  refine ⟨by unfold cellB; rw [hx]; rfl, ?_⟩
  unfold cellX
  rw [hx]
  refine ⟨d1, d2, by show ((secX x 12 : Nat) : Int) = _; rw [d3], by show ((secX x 13 : Nat) : Int) = _; rw [d4], by show secX x 14 = _; rw [d5]; exact a5, fun j hj => ?_⟩
  have hj : j < secX x 14 := hj
  rw [d5] at hj
  exact (d6 j hj).trans (a6 j hj)
def recsOf (R : Nat → RowD) (n : Nat) : List Rec := (List.range n).map fun i => ((R i).n, (R i).f)
/-- The cells of records lie from sector e on. -/
def NewAt (T : Nat → Option (Nat → Nat)) (gen top e : Nat) (R : Nat → RowD) (n : Nat) : Prop := ∀ i k, i < n → k < needF (R i).n → ∃ x, T (e + sumN R i + k) = some (secX x) ∧ PartOf gen (top + 1 + i) (R i).n (R i).f k x
section
variable {T : Nat → Option (Nat → Nat)} {b gen top e n : Nat} {R : Nat → RowD}
theorem new_rec (hz : ∀ i, i < n → needF (R i).n ≠ 0) (hf : ∀ i, i < n → ∀ j, j < (R i).n → (R i).f j < 256) (hg : gen < 4294967296) (ht : top + n < 4294967296) (h : NewAt T gen top e R n) {i : Nat} (hi : i < n) (hb : e + sumN R (i + 1) ≤ b) {last : Nat} (hl : last ≤ top + i) :
    recP T b gen (e + sumN R i) last (needF (R i).n) ∧ SameR ((R i).n, (R i).f) (recR T (e + sumN R i) (needF (R i).n)) ∧ (cellX (T (e + sumN R i))).s = top + (i + 1) := by
  have hp : ∀ k, k < needF (R i).n → cellB (T (e + sumN R i + k)) = true ∧ PartOf gen (top + 1 + i) (R i).n (R i).f k (cellX (T (e + sumN R i + k))) := fun k hk => by
    obtain ⟨x, hx, hpx⟩ := h i k hi hk
    rw [hx]
    exact dec_part hpx hk hg (by omega) (hf i hi)
  have h0 := (hp 0 (by have := hz i hi; omega)).2
  have hz0 : e + sumN R i + 0 = e + sumN R i := rfl
  rw [hz0] at h0
  obtain ⟨j1, j2, j3⟩ := parts_join (X := fun k => cellX (T (e + sumN R i + k))) (hz i hi) fun k hk => (hp k hk).2
  have hs : sumN R (i + 1) = sumN R i + needF (R i).n := rfl
  have h1 : (cellX (T (e + sumN R i))).s = top + 1 + i := h0.2.1
  exact ⟨⟨by omega, fun k hk => (hp k hk).1, j1, h0.1, by omega⟩, ⟨j2.symm, fun j hj => (j3 j hj).symm⟩, by omega⟩
theorem scn_new (hz : ∀ i, i < n → needF (R i).n ≠ 0) (hf : ∀ i, i < n → ∀ j, j < (R i).n → (R i).f j < 256) (hg : gen < 4294967296) (ht : top + n < 4294967296) (h : NewAt T gen top e R n) (hb : e + sumN R n ≤ b) (hgr : e + sumN R n < b → cellB (T (e + sumN R n)) = true → (cellX (T (e + sumN R n))).s ≤ top + n) :
    ∀ (m i : Nat), i + m = n → ∀ last, (0 < m → last ≤ top + i) → (m = 0 → last = top + n) → ∃ rs, SameL ((List.range' i m).map fun i => ((R i).n, (R i).f)) rs ∧ Scn T b gen (e + sumN R i) last rs (e + sumN R n) (top + n)
  | 0, i, hi, last, _, h2 => by
    obtain rfl : i = n := by omega
    rw [h2 rfl]
    exact ⟨[], trivial, .none_ hgr⟩
  | m + 1, i, hi, last, h1, _ => by
    have hb' : e + sumN R (i + 1) ≤ b := Nat.le_trans (Nat.add_le_add_left (sumN_mono R (by omega)) _) hb
    obtain ⟨a1, a2, a3⟩ := new_rec hz hf hg ht h (by omega) hb' (h1 (by omega))
    obtain ⟨rs, hs, hk⟩ := scn_new hz hf hg ht h hb hgr m (i + 1) (by omega) (top + (i + 1)) (fun _ => Nat.le_refl _) (fun e => by omega)
    refine ⟨_ :: rs, ⟨a2, hs⟩, .more a1 ?_⟩
    rw [a3, show e + sumN R i + needF (R i).n = e + sumN R (i + 1) from by show _ = e + (sumN R i + _); omega]
    exact hk
end
/-- All cells' numbers are at most this. -/
def Most (T : Nat → Option (Nat → Nat)) (first b l : Nat) : Prop := ∀ k, first ≤ k → k < b → cellB (T k) = true → (cellX (T k)).s ≤ l
theorem most_top (T : Nat → Option (Nat → Nat)) (first : Nat) : ∀ m, Most T first (first + m) (topOf T first m)
  | 0 => fun k h1 h2 => by omega
  | m + 1 => fun k h1 h2 h3 => by
    have ih := most_top T first m
    unfold topOf
    by_cases e : k = first + m
    · subst e
      rw [if_pos h3]
      exact Nat.le_max_right _ _
    · have := ih k h1 (by omega) h3
      split
      · exact Nat.le_trans this (Nat.le_max_left _ _)
      · exact this
theorem sum_uniq {R : Nat → RowD} {i k i' k' : Nat} (hk : k < needF (R i).n) (hk' : k' < needF (R i').n) (h : sumN R i + k = sumN R i' + k') : i = i' ∧ k = k' := by
  have key : ∀ a b, a < b → sumN R a + needF (R a).n ≤ sumN R b := fun a b hab => sumN_mono R (a := a + 1) hab
  rcases Nat.lt_trichotomy i i' with c | c | c
  · have := key _ _ c
    omega
  · subst c
    exact ⟨rfl, by omega⟩
  · have := key _ _ c
    omega
section
variable {S : DS} {Q : QS} {n : Nat} {R : Nat → RowD} {xs : List CellD}
/-- The sectors behind writes of cells of records. -/
theorem new_at (hg : S.gone = false) (hc : wrC S Q.ende xs) (hs : ∀ (j : Nat) (y : CellD), xs[j]? = some y → Says Q n R j y) (hl : xs.length = sumN R n) :
    NewAt (rdS (wrS S Q.ende xs)) Q.gen Q.top Q.ende R n ∧ ∀ j, j < Q.ende ∨ Q.ende + sumN R n ≤ j → rdS (wrS S Q.ende xs) j = rdS S j := by
  obtain ⟨_, _, _, h4⟩ := rdS_wrS xs S Q.ende hg hc
  refine ⟨fun i k hi hk => ?_, fun j hj => ?_⟩
  · have hlt := sumN_lt R hi hk
    obtain ⟨x, hx⟩ : ∃ x, xs[sumN R i + k]? = some x := ⟨xs[sumN R i + k]'(by omega), List.getElem?_eq_getElem (by omega)⟩
    obtain ⟨i', k', hi', hk', he, hp⟩ := hs _ _ hx
    obtain ⟨rfl, rfl⟩ := sum_uniq hk hk' he
    refine ⟨x, ?_, hp⟩
    rw [h4, if_pos (by omega), show Q.ende + sumN R i + k - Q.ende = sumN R i + k from by omega, hx]
  · rw [h4]
    split
    · rw [List.getElem?_eq_none (by omega)]
    · rfl
/-- What is scanned behind records that were added. -/
theorem scn_kept (hq : Q.ok) (hg : S.gone = false) {rs : List Rec} {l : Nat} (hn0 : n ≠ 0) (h : Scn (rdS S) Q.behind Q.gen Q.first 0 rs Q.ende l) (hlt : l ≤ Q.top) (hm : Most (rdS S) Q.first Q.behind Q.top) (htk : takesC Q n R = 0) (hf : ∀ i, i < n → ∀ j, j < (R i).n → (R i).f j < 256)
    (hc : wrC S Q.ende xs) (hs : ∀ (j : Nat) (y : CellD), xs[j]? = some y → Says Q n R j y) (hl : xs.length = sumN R n) (hk : (wrS S Q.ende xs).flush.2 = 0) :
    (wrS S Q.ende xs).flush.1.gone = false ∧ (∃ rs', SameL (rs ++ recsOf R n) rs' ∧ Scn (rdS (wrS S Q.ende xs).flush.1) Q.behind Q.gen Q.first 0 rs' (Q.ende + sumN R n) (Q.top + n)) ∧ Most (rdS (wrS S Q.ende xs).flush.1) Q.first Q.behind (Q.top + n) := by
  obtain ⟨t1, t2, t3⟩ := takes_yes htk
  obtain ⟨q1, q2, q3, q4, q5⟩ := hq
  obtain ⟨f1, f2, f3⟩ := rdS_flush hk
  have eT : rdS (wrS S Q.ende xs).flush.1 = rdS (wrS S Q.ende xs) := funext f3
  rw [eT]
  obtain ⟨n1, n2⟩ := new_at hg hc hs hl
  have ht : Q.top + n < 4294967296 := by omega
  have hmost : Most (rdS (wrS S Q.ende xs)) Q.first Q.behind (Q.top + n) := fun k h1 h2 h3 => by
    by_cases hin : k < Q.ende ∨ Q.ende + sumN R n ≤ k
    · rw [n2 k hin] at h3 ⊢
      exact Nat.le_trans (hm k h1 h2 h3) (Nat.le_add_right _ _)
    · have hex : ∀ m, k < Q.ende + sumN R m → m ≤ n → ∃ i j, i < n ∧ j < needF (R i).n ∧ k = Q.ende + sumN R i + j := by
        intro m
        induction m with
        | zero => intro h _; have : sumN R 0 = 0 := rfl; omega
        | succ m ih =>
          intro h hmn
          by_cases hh : k < Q.ende + sumN R m
          · exact ih hh (by omega)
          · have : sumN R (m + 1) = sumN R m + needF (R m).n := rfl
            exact ⟨m, k - (Q.ende + sumN R m), by omega, by omega, by omega⟩
      obtain ⟨i, j, hi, hj, rfl⟩ := hex n (by omega) (Nat.le_refl _)
      obtain ⟨x, hx, hpx⟩ := n1 i j hi hj
      rw [hx]
      have := (dec_part hpx hj q4 (by omega) (hf i hi)).2.2.1
      omega
  have hse : Q.ende + sumN R n ≤ Q.behind := by omega
  obtain ⟨rs1, hs1, hk1⟩ := scn_new (b := Q.behind) (T := rdS (wrS S Q.ende xs)) t1 hf q4 ht n1 hse (fun h1 h2 => hmost _ (by omega) h1 h2) n 0 (by omega) l (fun _ => by omega) (fun e => absurd e hn0)
  obtain ⟨rs0, hs0, hk0⟩ := h.front (by omega) (fun k h1 h2 => (n2 k (.inl h2)).symm) hk1
  refine ⟨f2, ⟨rs0 ++ rs1, hs0.app ?_, hk0⟩, hmost⟩
  unfold recsOf
  rw [List.range_eq_range']
  exact hs1
end
end Go.Proofs.Ytmcbmbcfgefocaa

/- A disk with a segment, and what lies beside them: the contracts in one word. -/
namespace Go.Proofs.Ytmcbmbcfgefocaa
open Go.RowKit
set_option linter.unusedSimpArgs false
set_option linter.unusedVariables false

theorem bbt' {w0 w w' : World} {F : Nat → Prop} (h : Below w0.heap.size w0 w) (k : Only F w w') (hF : ∀ k, F k → w0.heap.size ≤ k) : Below w0.heap.size w0 w' :=
  ⟨k.os.trans h.os, k.tape.trans h.tape, k.output.trans h.output, Nat.le_trans h.size k.size, fun j hj => (k.block j (Nat.lt_of_lt_of_le hj h.size) fun e => by have := hF j e; omega).trans (h.block j hj)⟩
section
variable {w0 w w' : World} {gd gq : Nat} {S S' : DS} {Q Q' : QS} {Φ Ψ : World → Prop}
end
end Go.Proofs.Ytmcbmbcfgefocaa

/- Contract: the document's Alike, of lists of rows that are alike. -/
namespace Go.Proofs.Ytmcbmbcfgefocaa
open Go.RowKit
set_option linter.unusedSimpArgs false
set_option linter.unusedVariables false

/-- A list of rows of bytes, wherever it lies. -/
def RowsBy (w : World) (v : Value) (rs : List Rec) : Prop :=
  ∃ A c, v = .slice A rs.length c ∧ ∀ (i : Nat) (r : Rec), rs[i]? = some r → ∃ ad u, A = some ad ∧ w.cell? (ad.add i) = some u ∧ Byt w u r.1 r.2 ∧ r.1 ≤ 9223372036854775807
theorem RowsBy.below {w w' : World} {v : Value} {rs : List Rec} (h : RowsBy w v rs) (hb : Below w.heap.size w w') : RowsBy w' v rs := by
  obtain ⟨A, c, e, h⟩ := h
  refine ⟨A, c, e, fun i r hi => ?_⟩
  obtain ⟨ad, u, e1, h1, h2, h3⟩ := h i r hi
  exact ⟨ad, u, e1, (hb.cell (block_lt_of_cell h1)).trans h1, h2.below hb, h3⟩
theorem SameL.at_ : ∀ {l l' : List Rec}, SameL l l' → ∀ {i : Nat} {r : Rec}, l[i]? = some r → ∃ r', l'[i]? = some r' ∧ SameR r r'
  | [], [], _, _, _, h => by simp at h
  | x :: _, y :: _, h, 0, r, hr => by
    rw [List.getElem?_cons_zero] at hr
    cases hr
    exact ⟨y, List.getElem?_cons_zero, h.1⟩
  | x :: _, y :: _, h, i + 1, r, hr => by
    rw [List.getElem?_cons_succ] at hr
    obtain ⟨r', h1, h2⟩ := SameL.at_ h.2 hr
    exact ⟨r', by rw [List.getElem?_cons_succ]; exact h1, h2⟩
set_option maxRecDepth 100000 in
set_option maxHeartbeats 2000000 in
theorem alikeL_yes {w : World} {u v : Value} {rs rs' : List Rec} (hu : RowsBy w u rs) (hv : RowsBy w v rs') (hs : SameL rs rs') (hn : rs.length ≤ 1000000) :
    Calls Try.prog 16 #[u, v] w fun e w' => e = .returned (.bool true) ∧ Below w.heap.size w w' := by
  have hlen := hs.len
  obtain ⟨A, c, rfl, hA⟩ := hu
  obtain ⟨B, d, rfl, hB⟩ := hv
  rw [← hlen]
  have HSB : Hid (∀ k, k < rs.length → ∃ a b A1 c1 B1 d1 m f, A = some a ∧ B = some b ∧ w.cell? (a.add k) = some (.slice A1 m c1) ∧ w.cell? (b.add k) = some (.slice B1 m d1) ∧ m ≤ 9223372036854775807 ∧ Rd .u8 w A1 m f ∧ Rd .u8 w B1 m f) := fun k hk => by
    obtain ⟨r, hr⟩ : ∃ r, rs[k]? = some r := ⟨rs[k], List.getElem?_eq_getElem hk⟩
    obtain ⟨r', hr', hsr⟩ := hs.at_ hr
    obtain ⟨a, u1, e1, h1, ⟨A1, c1, eu, _, hr1, _⟩, hm⟩ := hA k r hr
    obtain ⟨b, u2, e2, h2, ⟨B1, d1, ev, _, hr2, _⟩, _⟩ := hB k r' hr'
    subst eu
    subst ev
    rw [← hsr.1] at h2 hr2
    exact ⟨a, b, A1, c1, B1, d1, r.1, r.2, e1, e2, h1, h2, hm, hr1, hr2.congr fun j hj => (hsr.2 j hj).symm⟩
  obtain ⟨n, hnn⟩ : ∃ n, rs.length = n := ⟨_, rfl⟩
  rw [hnn] at hn HSB ⊢
  clear hA hB hs hlen hnn
  go_enter Try.func16, Try.ntmps16
  go_wp2
  go_loopw [5] (fun x wr => ∃ k : Nat, k ≤ n ∧ x = .int .i64 k ∧ Below w.heap.size w wr) (fun x _ => n - (intOf x).toNat)
  case atStart => exact ⟨0, Nat.zero_le _, rfl, Below.refl _ _⟩
  case round =>
    obtain ⟨k, hk, rfl, hbl⟩ := hrel
    have HBL := Lib.hid hbl
    by_cases hlt : k < n
    · obtain ⟨a, b, A1, c1, B1, d1, m, f, rfl, rfl, y1, y2, hm, hr1, hr2⟩ := HSB.out k hlt
      have HR1 := Lib.hid (hr1.below hbl)
      have HR2 := Lib.hid (hr2.below hbl)
      have z1 := (hbl.cell (block_lt_of_cell y1)).trans y1
      have z2 := (hbl.cell (block_lt_of_cell y2)).trans y2
      clear y1 y2 hr1 hr2 hbl
      have i0 : (0 : Int) ≤ (k : Int) := by omega
      have i1 : (k : Int) < (n : Int) := by omega
      go_wp2
      go_quiet (fail)
      go_wp2
      go_loopw [6] (fun x wq => ∃ j : Nat, j ≤ m ∧ x = .int .i64 j ∧ Below wr.heap.size wr wq) (fun x _ => m - (intOf x).toNat)
      case atStart => exact ⟨0, Nat.zero_le _, rfl, Below.drewN_ (Below.refl _ _) _⟩
      case round =>
        obtain ⟨j, hj, rfl, hbq⟩ := hrel
        have z3 := cell_later hbq z1
        have z4 := cell_later hbq z2
        have HBQ := Lib.hid hbq
        by_cases hjm : j < m
        · obtain ⟨a1, rfl, y1⟩ := (HR1.out.below hbq) j hjm
          obtain ⟨a2, rfl, y2⟩ := (HR2.out.below hbq) j hjm
          clear hbq z1 z2
          go_wp2
          go_quiet (fail)
          go_wp2
          go_roundw
          case rel => exact ⟨j + 1, by omega, by go_num, Below.drewN_ HBQ.out _⟩
          case measure => simp [intOf]; omega
        · obtain rfl : j = m := by omega
          clear hbq z1 z2
          go_wp2
          go_roundw
          case rel => exact ⟨k + 1, by omega, by go_num, bbt HBL.out HBQ.out⟩
          case measure => simp [intOf]; omega
    · obtain rfl : k = n := by omega
      clear hbl
      go_wp2
      go_ret
      exact ⟨rfl, HBL.out⟩
end Go.Proofs.Ytmcbmbcfgefocaa

/- Scan, Add, Free of a disk with a segment; a disk that loses nothing. -/
namespace Go.Proofs.Ytmcbmbcfgefocaa
open Go.RowKit
set_option linter.unusedSimpArgs false
set_option linter.unusedVariables false

theorem joinN_few {q : Nat} {X : Nat → CellD} (h : joinP q X) : joinN q X q ≤ 1000 := by
  have h0 := h.1
  have h1 := join_few (h.2 (q - 1) (by omega))
  rw [joinN, if_neg (by omega)]
  omega
theorem Scn.few {T : Nat → Option (Nat → Nat)} {b gen i last : Nat} {rs : List Rec} {e l : Nat} (h : Scn T b gen i last rs e l) : ∀ r ∈ rs, r.1 ≤ 1000 := by
  induction h with
  | stop _ => intro r hr; cases hr
  | more h _ ih =>
    intro r hr
    rcases List.mem_cons.1 hr with rfl | hr
    · exact joinN_few h.2.2.1
    · exact ih r hr
theorem RecsAt.by_ {w : World} {base : Nat} {v : Value} {rs : List Rec} (h : RecsAt w base v rs) (hf : ∀ r ∈ rs, r.1 ≤ 1000) : RowsBy w v rs := by
  obtain ⟨A, c, rfl⟩ := h.form
  obtain ⟨vs, ho, hr⟩ := h
  refine ⟨A, c, rfl, fun i r hi => ?_⟩
  obtain ⟨u, hu, hb, _⟩ := hr i r hi
  have hm : r ∈ rs := List.mem_of_getElem? hi
  have hlt : i < rs.length := by
    by_cases e : i < rs.length
    · exact e
    · rw [List.getElem?_eq_none (by omega)] at hi; cases hi
  obtain ⟨g, rfl⟩ : ∃ g, A = some ⟨g, 0, none⟩ := by
    rcases ho.2 with ⟨e, hz⟩ | ⟨g, cap, cur, e, _⟩
    · have := congrArg (fun v => match v with | Value.slice _ n _ => n | _ => 0) e
      simp at this
      rw [this] at hlt
      cases hlt
    · have e : Value.slice A rs.length c = _ := e
      simp at e
      exact ⟨g, e.1⟩
  exact ⟨_, u, rfl, ho.cells rfl i u hu, hb, by have := hf r hm; omega⟩
section
variable {w0 w w' : World} {gd gq : Nat} {S S' : DS} {Q Q' : QS} {Φ Ψ : World → Prop}
end
/-- On a disk that loses nothing every write is told OK. -/
theorem write_calm {S : DS} (hg : S.gone = false) (hl : S.left = 0) {i : Nat} (hi : i < S.n) (f : Nat → Nat) : S.write (i : Nat) f = (S.wrote i f, 0) := by
  unfold DS.write
  have hb : hasB S.n (i : Nat) = true := by unfold hasB; rw [decide_eq_true_eq]; omega
  have hk : S.ok = true := by unfold DS.ok; rw [hl]; rfl
  have hbg : S.begun = S := by unfold DS.begun; rw [if_pos hl]
  rw [hg, hb, hk, hbg]
  rfl
theorem wrS_calm : ∀ (xs : List CellD) {S : DS} (e : Nat), S.gone = false → S.left = 0 → e + xs.length ≤ S.n → wrC S e xs ∧ (wrS S e xs).left = 0 ∧ (wrS S e xs).gone = false ∧ (wrS S e xs).n = S.n
  | [], S, e, hg, hl, _ => ⟨trivial, hl, hg, rfl⟩
  | x :: l, S, e, hg, hl, hn => by
    rw [List.length_cons] at hn
    have hw := write_calm hg hl (i := e) (by omega) (secX x)
    obtain ⟨a1, a2, a3, a4⟩ := wrS_calm l (S := S.wrote e (secX x)) (e + 1) hg hl (by show _ ≤ S.n; omega)
    refine ⟨⟨by rw [hw], ?_⟩, ?_⟩
    · show wrC (S.write _ _).1 _ _
      rw [hw]
      exact a1
    · show (wrS (S.write _ _).1 (e + 1) l).left = 0 ∧ (wrS (S.write _ _).1 (e + 1) l).gone = false ∧ (wrS (S.write _ _).1 (e + 1) l).n = S.n
      rw [hw]
      exact ⟨a2, a3, a4⟩
theorem flush_calm {S : DS} (hg : S.gone = false) (hl : S.left = 0) : S.flush = (S.flushed, 0) := by
  unfold DS.flush
  have hk : S.ok = true := by unfold DS.ok; rw [hl]; rfl
  have hbg : S.begun = S := by unfold DS.begun; rw [if_pos hl]
  rw [hg, hk, hbg]
  rfl
/-- What a disk without loss and a segment hold: these records. -/
structure Calm (S : DS) (Q : QS) (rs : List Rec) : Prop where
  gone : S.gone = false
  left : S.left = 0
  P : S.P = []
  ok : Q.ok
  n : Q.behind ≤ S.n
  scn : ∃ rs' l, SameL rs rs' ∧ Scn (rdS S) Q.behind Q.gen Q.first 0 rs' Q.ende l ∧ l ≤ Q.top
  most : Most (rdS S) Q.first Q.behind Q.top
theorem Calm.add {S S' : DS} {Q Q' : QS} {rs : List Rec} {n : Nat} {R : Nat → RowD} {k : Int} (h : Calm S Q rs) (hf : ∀ i, i < n → ∀ j, j < (R i).n → (R i).f j < 256) (ha : AddS S Q n R S' Q' k) :
    (k = takesC Q n R ∧ k ≠ 0 ∧ S' = S ∧ Q' = Q) ∨ (k = 0 ∧ takesC Q n R = 0 ∧ S'.n = S.n ∧ Q' = { Q with ende := Q.ende + sumN R n, top := if n = 0 then Q.top else Q.top + n } ∧ Calm S' Q' (rs ++ recsOf R n)) := by
  obtain ⟨rs', l, hs, hsc, hlt⟩ := h.scn
  have hcap : takesC Q n R = 0 → Q.ende + sumN R n ≤ S.n := fun ht => by
    have := (takes_yes ht).2.1
    have := h.n
    have := h.ok.2.1
    omega
  cases ha with
  | no ht => exact .inl ⟨rfl, ht, rfl, rfl⟩
  | gone _ hg => rw [h.gone] at hg; cases hg
  | none_ ht hg hn =>
    subst hn
    have e0 : sumN R 0 = 0 := rfl
    refine .inr ⟨rfl, ht, rfl, by rw [e0, if_pos rfl]; rfl, ?_⟩
    rw [show recsOf R 0 = [] from rfl, List.append_nil]
    exact h
  | cut ht hg hn pre x hs2 hl hc hk =>
    exfalso
    apply hk
    have hcp := hcap ht
    rw [List.length_append, List.length_singleton] at hl
    obtain ⟨a1, a2, a3, a4⟩ := wrS_calm pre Q.ende h.gone h.left (by omega)
    rw [write_calm a3 a2 (by rw [a4]; omega)]
  | lost ht hg hn xs hs2 hl hc hk =>
    exfalso
    apply hk
    have hcp := hcap ht
    obtain ⟨a1, a2, a3, a4⟩ := wrS_calm xs Q.ende h.gone h.left (by omega)
    rw [flush_calm a3 a2]
  | kept ht hg hn xs hs2 hl hc hk =>
    have hcp := hcap ht
    obtain ⟨a1, a2, a3, a4⟩ := wrS_calm xs Q.ende h.gone h.left (by omega)
    obtain ⟨b1, ⟨rs2, b2, b3⟩, b4⟩ := scn_kept h.ok h.gone hn hsc hlt h.most ht hf hc hs2 hl hk
    have hfl := flush_calm a3 a2
    obtain ⟨t1, t2, t3⟩ := takes_yes ht
    obtain ⟨q1, q2, q3, q4, q5⟩ := h.ok
    refine .inr ⟨rfl, ht, by rw [hfl]; exact a4, by rw [if_neg hn], ?_⟩
    refine ⟨b1, by rw [hfl]; exact a2, by rw [hfl]; rfl, ⟨by show Q.first ≤ Q.ende + _; omega, by show Q.ende + _ ≤ Q.behind; omega, q3, q4, by show Q.top + n < _; omega⟩, by rw [hfl]; show Q.behind ≤ (wrS S Q.ende xs).n; rw [a4]; exact h.n, ⟨rs2, Q.top + n, (hs.app (SameL.refl _)).trans b2, b3, Nat.le_refl _⟩, b4⟩
end Go.Proofs.Ytmcbmbcfgefocaa

/- A disk that loses nothing: what is scanned of it. -/
namespace Go.Proofs.Ytmcbmbcfgefocaa
open Go.RowKit
set_option linter.unusedSimpArgs false
set_option linter.unusedVariables false

section
variable {T : Nat → Option (Nat → Nat)} {b gen : Nat}
theorem Scn.last_at {i last : Nat} {rs : List Rec} {e l : Nat} (h : Scn T b gen i last rs e l) : l = last ∨ ∃ k, i ≤ k ∧ k < b ∧ cellB (T k) = true ∧ (cellX (T k)).s = l := by
  induction h with
  | stop _ => exact .inl rfl
  | @more i last q e l rs h _ ih =>
    have hp := h.pos
    have hb := h.1
    rcases ih with e | ⟨k, h1, h2, h3, h4⟩
    · exact .inr ⟨i, Nat.le_refl _, by omega, h.2.1 0 hp, e.symm⟩
    · exact .inr ⟨k, by omega, h2, h3, h4⟩
theorem top_most {first l : Nat} : ∀ m, Most T first (first + m) l → topOf T first m ≤ l
  | 0, _ => Nat.zero_le _
  | m + 1, h => by
    have ih := top_most m fun k h1 h2 h3 => h k h1 (by omega) h3
    unfold topOf
    split
    · rename_i hc
      have := h (first + m) (by omega) (by omega) hc
      omega
    · exact ih
end
theorem Calm.scan {S : DS} {Q : QS} {rs rs2 : List Rec} {en l : Nat} (h : Calm S Q rs) (hs : Scn (rdS S) Q.behind Q.gen Q.first 0 rs2 en l) :
    SameL rs rs2 ∧ en = Q.ende ∧ Calm S { Q with ende := en, top := topOf (rdS S) Q.first (Q.behind - Q.first) } rs := by
  obtain ⟨rs', l', h1, h2, h3⟩ := h.scn
  obtain ⟨rfl, rfl, rfl⟩ := h2.uniq hs
  obtain ⟨q1, q2, q3, q4, q5⟩ := h.ok
  have hfb : Q.first + (Q.behind - Q.first) = Q.behind := by omega
  have ht : topOf (rdS S) Q.first (Q.behind - Q.first) ≤ Q.top := top_most _ (by rw [hfb]; exact h.most)
  have hm : Most (rdS S) Q.first Q.behind (topOf (rdS S) Q.first (Q.behind - Q.first)) := by
    have := most_top (rdS S) Q.first (Q.behind - Q.first)
    rw [hfb] at this
    exact this
  refine ⟨h1, rfl, h.gone, h.left, h.P, ⟨q1, q2, q3, q4, by show topOf _ _ _ < _; omega⟩, h.n, ⟨rs', l', h1, h2, ?_⟩, hm⟩
  rcases h2.last_at with e | ⟨k, k1, k2, k3, k4⟩
  · rw [e]
    exact Nat.zero_le _
  · rw [← k4]
    exact hm k k1 k2 k3
/-- Nothing lies on a segment none of whose sectors is a cell. -/
theorem calm_new {S : DS} {Q : QS} (hg : S.gone = false) (hl : S.left = 0) (hP : S.P = []) (hq : Q.ok) (hn : Q.behind ≤ S.n) (hc : ∀ k, Q.first ≤ k → k < Q.behind → cellB (rdS S k) = false) {rs : List Rec} {en l : Nat} (hs : Scn (rdS S) Q.behind Q.gen Q.first 0 rs en l) :
    rs = [] ∧ en = Q.first ∧ topOf (rdS S) Q.first (Q.behind - Q.first) = 0 ∧ Calm S { Q with ende := en, top := topOf (rdS S) Q.first (Q.behind - Q.first) } [] := by
  obtain ⟨q1, q2, q3, q4, q5⟩ := hq
  have h0 : Scn (rdS S) Q.behind Q.gen Q.first 0 [] Q.first 0 := .none_ fun h1 h2 => by
    rw [hc _ (Nat.le_refl _) h1] at h2
    cases h2
  obtain ⟨rfl, rfl, rfl⟩ := h0.uniq hs
  have hfb : Q.first + (Q.behind - Q.first) = Q.behind := by omega
  have hmo : Most (rdS S) Q.first Q.behind 0 := fun k h1 h2 h3 => by
    rw [hc k h1 h2] at h3
    cases h3
  have ht : topOf (rdS S) Q.first (Q.behind - Q.first) = 0 := Nat.le_zero.1 (top_most _ (by rw [hfb]; exact hmo))
  refine ⟨rfl, rfl, ht, hg, hl, hP, ⟨Nat.le_refl _, by show Q.first ≤ Q.behind; omega, q3, q4, by show topOf _ _ _ < _; rw [ht]; decide⟩, hn, ⟨[], 0, trivial, h0, Nat.zero_le _⟩, ?_⟩
  show Most (rdS S) Q.first Q.behind (topOf _ _ _)
  rw [ht]
  exact hmo
/-- Zeros are no cell. -/
theorem zero_cell : cellB (some fun _ => 0) = false := by
  unfold cellB
  rw [secD_no]
  · rfl
  · intro h
    have h1 : (1 : Int) ≤ 0 := h.2.2.2.1.1
    omega
theorem new_cell (n k : Nat) : cellB (rdS (DS.new n) k) = false := by
  have hz := zero_cell
  unfold rdS DS.read DS.new
  cases hb : hasB n (k : Int) with
  | true => simpa [DS.seen, layT, hb] using hz
  | false => simp [hb, cellB, secD]
end Go.Proofs.Ytmcbmbcfgefocaa
