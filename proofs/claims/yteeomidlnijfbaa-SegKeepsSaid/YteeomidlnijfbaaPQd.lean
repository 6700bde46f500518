/- A disk that has lost: what is scanned. -/
import Derived.Test.YteeomidlnijfbaaPQa
import Derived.Test.YteeomidlnijfbaaPNe
namespace Go.Proofs.Yteeomidlnijfbaa
open Go.RowKit
set_option linter.unusedSimpArgs false
set_option linter.unusedVariables false

theorem KA.up {S : DS} {Q : QS} {rs : List Rec} (h : KA S Q rs) (cs : List Nat) : KA (S.up cs) Q rs := by
  have hT : (S.up cs).T = S.T := by
    show upT S.T S.P cs = S.T
    rw [h.P]
    cases cs <;> rfl
  have e : rdS (S.up cs) = rdS S := by
    funext j
    rw [rdS_still (S := S.up cs) rfl rfl j, rdS_still h.gone h.P j, hT]
    rfl
  exact ⟨rfl, rfl, h.n, h.frame, h.ok, by rw [e]; exact h.scn, by rw [e]; exact h.most⟩
theorem KA.plan {S : DS} {Q : QS} {rs : List Rec} (h : KA S Q rs) (k : Int) : KA (S.plan k) Q rs := by
  have e : rdS (S.plan k) = rdS S := rfl
  exact ⟨h.gone, h.P, h.n, h.frame, h.ok, by rw [e]; exact h.scn, by rw [e]; exact h.most⟩
theorem KB.plan {S : DS} {Q : QS} {rs : List Rec} {m : Nat} {R : Nat → RowD} (h : KB S Q rs m R) (k : Int) : KB (S.plan k) Q rs m R :=
  ⟨h.gone, h.n, h.frame, h.pos, h.was, h.byt⟩
theorem ka_at {S : DS} {Q : QS} {rs rs' : List Rec} {en l : Nat} (hg : S.gone = false) (hP : S.P = []) (hn : S.n = 42) (hq : Q.first = 1 ∧ Q.behind = 41 ∧ Q.gen = 1) (hs : Scn (rdS S) 41 1 1 0 rs' en l) (hr : SameL rs rs') (ht : topOf (rdS S) 1 40 < 4294967296) :
    KA S { Q with ende := en, top := topOf (rdS S) 1 40 } rs := by
  obtain ⟨q1, q2, q3⟩ := hq
  have hm : Most (rdS S) 1 41 (topOf (rdS S) 1 40) := most_top (rdS S) 1 40
  have hle := hs.le (by omega)
  refine ⟨hg, hP, hn, ⟨q1, q2, q3⟩, ⟨by show Q.first ≤ en; omega, by show en ≤ Q.behind; omega, by show Q.behind ≤ 1000; omega, by show Q.gen < _; omega, ht⟩, ⟨rs', l, hr, hs, ?_⟩, hm⟩
  rcases hs.last_at with e | ⟨k, k1, k2, k3, k4⟩
  · rw [e]
    exact Nat.zero_le _
  · rw [← k4]
    exact hm k k1 k2 k3
theorem KA.scan {S : DS} {Q : QS} {rs rs2 : List Rec} {en l : Nat} (h : KA S Q rs) (hs : Scn (rdS S) 41 1 1 0 rs2 en l) : SameL rs rs2 ∧ KA S { Q with ende := en, top := topOf (rdS S) 1 40 } rs := by
  obtain ⟨rs', l', h1, h2, h3⟩ := h.scn
  obtain ⟨rfl, rfl, rfl⟩ := h2.uniq hs
  have ht : topOf (rdS S) 1 40 ≤ Q.top := top_most 40 h.most
  exact ⟨h1, ka_at h.gone h.P h.n h.frame hs h1 (Nat.lt_of_le_of_lt ht h.ok.2.2.2.2)⟩
theorem KB.nz {S : DS} {Q : QS} {rs : List Rec} {m : Nat} {R : Nat → RowD} (h : KB S Q rs m R) : ∀ i, i < m → needF (R i).n ≠ 0 := by
  obtain ⟨S0, Q0, xs, w1, w2, _⟩ := h.was
  exact (takes_yes w2).1
theorem KB.up {S : DS} {Q : QS} {rs : List Rec} {m : Nat} {R : Nat → RowD} (h : KB S Q rs m R) (cs : List Nat) :
    ∃ n, n ≤ m ∧ ∀ rs2 en l, Scn (rdS (S.up cs)) 41 1 1 0 rs2 en l → SameL (rs ++ recsOf R n) rs2 ∧ KA (S.up cs) { Q with ende := en, top := topOf (rdS (S.up cs)) 1 40 } (rs ++ recsOf R n) := by
  obtain ⟨S0, Q0, xs, w1, w2, w3, w4, w5, w6⟩ := h.was
  obtain ⟨f1, f2, f3⟩ := w1.frame
  obtain ⟨t1, t2, t3⟩ := takes_yes w2
  obtain ⟨q1, q2, q3, q4, q5⟩ := w1.ok
  obtain ⟨rs0, l0, s1, s2, s3⟩ := w1.scn
  have hfit : Q0.ende + sumN R m ≤ 41 := by omega
  have key : ∀ j, rdS (S.up cs) j = rdS S0 j ∨ ∃ i k x, i < m ∧ k < needF (R i).n ∧ j = Q0.ende + sumN R i + k ∧ PartOf 1 (Q0.top + 1 + i) (R i).n (R i).f k x ∧ (rdS (S.up cs) j = some (secX x) ∨ rdS (S.up cs) j = none) := fun j => by
    have e1 := rdS_still (S := S.up cs) rfl rfl j
    have e2 := rdS_still w1.gone w1.P j
    have en : (S.up cs).n = 42 := h.n
    rw [en] at e1
    rw [w1.n] at e2
    by_cases hj : j < 42
    · rw [if_pos hj] at e1 e2
      have e3 : (S.up cs).T j = upT S.T S.P cs j := rfl
      rcases upT_at j S.P S.T cs with hh | ⟨f, hm, hh⟩
      · exact .inl (by rw [e1, e2, e3, hh, w3])
      · rw [w4] at hm
        obtain ⟨idx, x, h1, h2, h3⟩ := wrL_mem hm
        obtain ⟨i, k, hi, hk, he, hp⟩ := w5 idx x h1
        rw [f3] at hp
        exact .inr ⟨i, k, x, hi, hk, by omega, hp, by rw [e1, e3, ← h3]; exact hh⟩
    · rw [if_neg hj] at e1 e2
      exact .inl (by rw [e1, e2])
  have hmix : MixAt (rdS (S.up cs)) (rdS S0) 1 Q0.top Q0.ende R m := by
    refine ⟨fun i k hi hk => ?_, fun j hj => ?_, fun j hj => ?_⟩
    · rcases key (Q0.ende + sumN R i + k) with hh | ⟨i', k', x, hi', hk', he, hp, hh⟩
      · exact .inr (.inl hh)
      · obtain ⟨rfl, rfl⟩ := sum_uniq hk hk' (by omega)
        rcases hh with hh | hh
        · exact .inl ⟨x, hh, hp⟩
        · exact .inr (.inr hh)
    · rcases key j with hh | ⟨i', k', x, hi', hk', he, hp, hh⟩
      · exact hh
      · omega
    · rcases key j with hh | ⟨i', k', x, hi', hk', he, hp, hh⟩
      · exact .inl hh
      · have := sumN_lt R hi' hk'
        omega
  obtain ⟨n, hw⟩ := whole_some (rdS (S.up cs)) 1 Q0.top Q0.ende R m
  have ht : Q0.top + m < 4294967296 := by omega
  have hmost := mix_most (b := 41) hmix (by decide) ht h.byt w1.most
  obtain ⟨rs', hr, hk'⟩ := mix_scan (b := 41) hmix (by decide) ht t1 h.byt w1.most (by omega) hfit s3 s2 hw
  refine ⟨n, hw.1, fun rs2 en l hs => ?_⟩
  obtain ⟨rfl, rfl, rfl⟩ := hk'.uniq hs
  have hsame : SameL (rs ++ recsOf R n) rs' := (s1.app (SameL.refl _)).trans hr
  have htop : topOf (rdS (S.up cs)) 1 40 ≤ Q0.top + m := top_most 40 hmost
  refine ⟨hsame, ka_at rfl rfl h.n ⟨by rw [h.frame], by rw [h.frame], by rw [h.frame]⟩ hs hsame (by omega)⟩
/-- Nothing is added while the power is gone. -/
theorem KB.add {S S' : DS} {Q Q' : QS} {rs : List Rec} {m m2 : Nat} {R R2 : Nat → RowD} {k : Int} (h : KB S Q rs m R) (ha : AddS S Q m2 R2 S' Q' k) : S' = S ∧ Q' = Q ∧ k ≠ 0 ∧ (k = 4 → m2 = 0) := by
  have hq := h.frame
  cases ha with
  | no ht =>
    refine ⟨rfl, rfl, ht, fun e => ?_⟩
    unfold takesC at e
    split at e
    · cases e
    · split at e <;> cases e
  | gone ht hg =>
    refine ⟨rfl, rfl, by decide, fun _ => ?_⟩
    have := (takes_yes ht).2.2
    rw [hq] at this
    have e : (⟨1, 41, 1, 1, 4294967295⟩ : QS).top = 4294967295 := rfl
    rw [e] at this
    omega
  | none_ _ hg => rw [h.gone] at hg; cases hg
  | cut _ hg => rw [h.gone] at hg; cases hg
  | lost _ hg => rw [h.gone] at hg; cases hg
  | kept _ hg => rw [h.gone] at hg; cases hg
end Go.Proofs.Yteeomidlnijfbaa

/- Acts of SegKeeps that came in; are there few records? -/
namespace Go.Proofs.Yteeomidlnijfbaa
open Go.ChangeShapes Go.WideShapes Go.ChangeAt Go.RowKit
set_option linter.unusedSimpArgs false
set_option linter.unusedVariables false

/-- A row of bytes, as it came in. -/
abbrev RowE := RowD
abbrev RowD.val (r : RowD) : Value := .slice r.A r.n r.c
def RowD.good (r : RowD) (w : World) : Prop := Byt w (.slice r.A r.n r.c) r.n r.f ∧ r.n ≤ 9223372036854775807
theorem RowD.good.below {r : RowD} {w w' : World} (h : r.good w) (hb : Below w.heap.size w w') : r.good w' := ⟨h.1.below hb, h.2⟩
/-- A list of rows. -/
def RowsE (w : World) (A : Option Addr) (n : Nat) (X : Nat → RowE) : Prop := ∀ i, i < n → ∃ ad, A = some ad ∧ w.cell? (ad.add i) = some (X i).val ∧ (X i).good w
theorem RowsE.below {w w' : World} {A : Option Addr} {n : Nat} {X : Nat → RowE} (h : RowsE w A n X) (hb : Below w.heap.size w w') : RowsE w' A n X := fun i hi => by
  obtain ⟨ad, e, h1, h2⟩ := h i hi
  exact ⟨ad, e, (hb.cell (block_lt_of_cell h1)).trans h1, h2.below hb⟩
section
variable {H : Type} {enc : TypeId × Value → H} {W : World} {base m : Nat} {held : Bool} {c : Value} {y : DataW H × List MemPlace}
set_option maxRecDepth 100000 in
theorem row_trod (h : DataW.trod enc Try.prog W base (fun _ => true) held m 35 [c] = some y) : ∃ r : RowE, c = r.val ∧ r.good W := by
  have hrow : ∃ (s : Option Addr) (l' c' : Nat) (zs : List Int), c = .slice s l' c' ∧ ((s = none ∧ l' = 0 ∧ c' = 0 ∧ zs = []) ∨ ∃ x, s = some x ∧ l' ≤ c' ∧ c' ≤ maxLen ∧ zs.length = c' ∧ (∀ i, i < zs.length → W.cell? (x.add i) = some (.int .u8 (zs.getD i 0))) ∧ ∀ n ∈ zs, (Lit.int .u8 n).wf = true) := by
    rcases open_ints Try.underlying35 Try.underlying5 (by kernel_rfl) h with ⟨hcs, _⟩ | ⟨x, l', c', zs, hcs, _, hl', hm', hz', _, hcell, hwz⟩
    · simp at hcs
      exact ⟨none, 0, 0, [], hcs, .inl ⟨rfl, rfl, rfl, rfl⟩⟩
    · simp at hcs
      exact ⟨some x, l', c', zs, hcs, .inr ⟨x, rfl, hl', hm', by simpa using hz', hcell, hwz⟩⟩
  obtain ⟨a, l', c', zs, rfl, hr⟩ := hrow
  obtain ⟨r1, r2, f, r3, r4⟩ := bytes_of hr
  exact ⟨⟨a, l', c', f⟩, rfl, ⟨a, c', rfl, r1, r3, r4⟩, r2⟩
set_option maxRecDepth 100000 in
theorem rows_trod (h : DataW.trod enc Try.prog W base (fun _ => true) held m 32 [c] = some y) : ∃ (A : Option Addr) (n k : Nat) (X : Nat → RowE), c = .slice A n k ∧ n ≤ 9223372036854775807 ∧ n ≤ k ∧ (A = none → n = 0 ∧ k = 0) ∧ RowsE W A n X := by
  rcases DataW.trod_slice Try.underlying32 h with ⟨hcs, _⟩ | ⟨a, l, k, elems, rest, n, _, hcs, _, hb, hl, hm, hlen, hel, _⟩
  · simp at hcs
    exact ⟨none, 0, 0, fun _ => ⟨none, 0, 0, fun _ => 0⟩, hcs, by omega, by omega, fun _ => ⟨rfl, rfl⟩, fun i hi => absurd hi (by omega)⟩
  · simp at hcs
    have each : ∀ i, ∃ t : RowE, i < l → W.cell? (a.add i) = some t.val ∧ t.good W := fun i => by
      by_cases hi : i < l
      · have he := hel i hi
        obtain ⟨y, hy⟩ : ∃ y, elems[i]? = some y := ⟨elems[i], List.getElem?_eq_getElem (by omega)⟩
        rw [hy, Option.bind_eq_some_iff, cellsRow] at he
        obtain ⟨cs, hc, ht⟩ := he
        obtain ⟨_, hcl, hcc⟩ := World.cells?_some hc
        obtain ⟨c0, rfl⟩ : ∃ c0, cs = [c0] := by
          match cs, hcl with
          | [c0], _ => exact ⟨c0, rfl⟩
        have q0 := hcc 0 (by omega)
        obtain ⟨r, rfl, hr⟩ := row_trod ht
        have e00 : (a.add (i * 1)).add 0 = a.add i := by rw [Nat.mul_one]; rfl
        rw [e00] at q0
        exact ⟨r, fun _ => ⟨q0, hr⟩⟩
      · exact ⟨⟨none, 0, 0, fun _ => 0⟩, fun h => absurd h hi⟩
    obtain ⟨g, hg⟩ := Classical.axiomOfChoice each
    exact ⟨some a, l, k, g, hcs, by simp only [maxLen] at hm; omega, hl, (fun e => nomatch e), fun i hi => ⟨a, rfl, (hg i hi).1, (hg i hi).2⟩⟩
end
structure Act7 where
  K : Int
  RA : Option Addr
  Rn : Nat
  Rc : Nat
  X : Nat → RowE
  G : Nat
  I : Int
  r : RowE
abbrev Act7.rows (a : Act7) : Value := .slice a.RA a.Rn a.Rc
def Act7At (w : World) (p : Addr) (a : Act7) : Prop :=
  w.cell? p = some (.int .i64 a.K) ∧ w.cell? ⟨p.block, p.off + 1, none⟩ = some a.rows ∧ w.cell? ⟨p.block, p.off + 2, none⟩ = some (.int .u32 (a.G : Nat)) ∧ w.cell? ⟨p.block, p.off + 3, none⟩ = some (.int .i64 a.I) ∧ w.cell? ⟨p.block, p.off + 4, none⟩ = some a.r.val ∧
    a.r.good w ∧ RowsE w a.RA a.Rn a.X ∧ (a.Rn ≤ a.Rc ∧ (a.RA = none → a.Rn = 0 ∧ a.Rc = 0)) ∧ a.G < 4294967296 ∧ -9223372036854775808 ≤ a.I ∧ a.I ≤ 9223372036854775807
def Acts7 (w : World) (A : Option Addr) (n : Nat) (X : Nat → Act7) : Prop := ∀ i, i < n → ∃ ad, A = some ad ∧ Act7At w (ad.add (i * 5)) (X i)
theorem Act7At.below {w w' : World} {p : Addr} {a : Act7} (h : Act7At w p a) (hb : Below w.heap.size w w') : Act7At w' p a := by
  obtain ⟨h0, h1, h2, h3, h4, h5, h6, h7⟩ := h
  exact ⟨(hb.cell (block_lt_of_cell h0)).trans h0, (hb.cell (block_lt_of_cell h1)).trans h1, (hb.cell (block_lt_of_cell h2)).trans h2, (hb.cell (block_lt_of_cell h3)).trans h3, (hb.cell (block_lt_of_cell h4)).trans h4, h5.below hb, h6.below hb, h7⟩
theorem cellsAct7 : Try.prog.cellsOf 37 = 5 := by kernel_rfl
theorem cellsRows : Try.prog.cellsOf 32 = 1 := by kernel_rfl
set_option maxRecDepth 100000 in
theorem acts7_open {H : Type} {enc : TypeId × Value → H} {W : World} {base b0 : Nat} {held : Bool} {r : Reach} {v : Value} {d : DataW H} {p : List MemPlace} (hv : Value.okWide Try.prog W r b0 22 v) (h : DataW.Trod enc Try.prog W base (fun _ => true) held 22 v d p) :
    ∃ (A : Option Addr) (len cap : Nat) (X : Nat → Act7), v = .slice A len cap ∧ len ≤ 9223372036854775807 ∧ Acts7 W A len X := by
  obtain ⟨A, len, cap, rfl⟩ := okWide_slice Try.underlying22 hv
  obtain ⟨fuel, hf⟩ := h
  rcases DataW.trod_slice Try.underlying22 hf with ⟨hcs, _⟩ | ⟨a, l, c, elems, rest, n, _, hcs, _, hb, hl, hm, hlen, hel, _⟩
  · simp [Value.cells] at hcs
    obtain ⟨rfl, rfl, rfl⟩ := hcs
    exact ⟨none, 0, 0, fun _ => ⟨0, none, 0, 0, fun _ => ⟨none, 0, 0, fun _ => 0⟩, 0, 0, ⟨none, 0, 0, fun _ => 0⟩⟩, rfl, by omega, fun i hi => absurd hi (by omega)⟩
  · simp [Value.cells] at hcs
    obtain ⟨rfl, rfl, rfl⟩ := hcs
    have each : ∀ i, ∃ t : Act7, i < len → Act7At W (a.add (i * 5)) t := fun i => by
      by_cases hi : i < len
      · have he := hel i hi
        obtain ⟨y, hy⟩ : ∃ y, elems[i]? = some y := ⟨elems[i], List.getElem?_eq_getElem (by omega)⟩
        rw [hy, Option.bind_eq_some_iff, cellsAct7] at he
        obtain ⟨cs, hc, ht⟩ := he
        obtain ⟨_, hcl, hcc⟩ := World.cells?_some hc
        obtain ⟨c0, c1, c2, c3, c4, rfl⟩ : ∃ c0 c1 c2 c3 c4, cs = [c0, c1, c2, c3, c4] := by
          match cs, hcl with
          | [c0, c1, c2, c3, c4], _ => exact ⟨c0, c1, c2, c3, c4, rfl⟩
        have q0 := hcc 0 (by omega)
        have q1 := hcc 1 (by omega)
        have q2 := hcc 2 (by omega)
        have q3 := hcc 3 (by omega)
        have q4 := hcc 4 (by omega)
        obtain ⟨y0, y1, y2, y3, y4, m, h0, h1, h2, h3, h4⟩ := trod_struct5 Try.underlying37 ht
        simp only [cellsInt, cellsU32, cellsRow, cellsRows, List.drop_zero, List.drop_succ_cons, List.take_succ_cons, List.take_zero] at h0 h1 h2 h3 h4
        obtain ⟨k, e0, _, f0⟩ := DataW.trod_int Try.underlying3 h0
        obtain ⟨RA, Rn, Rc, X, e1, x1, x2, x4, x3⟩ := rows_trod h1
        obtain ⟨g, e2, _, f2⟩ := DataW.trod_int Try.underlying31 h2
        obtain ⟨j, e3, _, f3⟩ := DataW.trod_int Try.underlying3 h3
        obtain ⟨r, e4, hr⟩ := row_trod h4
        simp at e0 e2 e3
        subst e0 e1 e2 e3 e4
        have b1 : 0 ≤ g ∧ g < 4294967296 := by simp [Lit.wf, IntKind.min, IntKind.max, IntKind.bits, IntKind.signed] at f2; omega
        have b2 : -9223372036854775808 ≤ j ∧ j ≤ 9223372036854775807 := by simp [Lit.wf, IntKind.min, IntKind.max, IntKind.bits, IntKind.signed] at f3; omega
        obtain ⟨g, rfl⟩ : ∃ k : Nat, g = k := ⟨g.toNat, by omega⟩
        have e00 : (a.add (i * 5)).add 0 = a.add (i * 5) := rfl
        rw [e00] at q0
        exact ⟨⟨k, RA, Rn, Rc, X, g, j, r⟩, fun _ => ⟨q0, q1, q2, q3, q4, hr, x3, ⟨x2, x4⟩, by show g < _; omega, b2.1, b2.2⟩⟩
      · exact ⟨⟨0, none, 0, 0, fun _ => ⟨none, 0, 0, fun _ => 0⟩, 0, 0, ⟨none, 0, 0, fun _ => 0⟩⟩, fun h => absurd h hi⟩
    obtain ⟨g, hg⟩ := Classical.axiomOfChoice each
    exact ⟨some a, len, cap, g, rfl, by simp only [maxLen] at hm; omega, fun i hi => ⟨a, rfl, hg i hi⟩⟩
end Go.Proofs.Yteeomidlnijfbaa

/- SegKeeps: are there few records; the list of all; what a round carries. -/
namespace Go.Proofs.Yteeomidlnijfbaa
open Go.RowKit Go.Shelf
set_option linter.unusedSimpArgs false
set_option linter.unusedVariables false

def sumW (X : Nat → RowD) : Nat → Int
  | 0 => 0
  | k + 1 => wrap64 (sumW X k + ((X k).n : Int))
def fewB (X : Nat → RowD) (m : Nat) : Bool := if m < 40 then decide (sumW X m < 8000) else false
theorem few_lt {X : Nat → RowD} {m : Nat} (h : fewB X m = true) : m < 40 := by
  unfold fewB at h
  split at h
  · assumption
  · cases h
set_option maxRecDepth 100000 in
set_option maxHeartbeats 2000000 in
theorem few7 {w : World} {A : Option Addr} {m c : Nat} {X : Nat → RowD} (hX : RowsIn w A m X) :
    Calls Try.prog 15 #[.slice A m c] w fun e w' => e = .returned (.bool (fewB X m)) ∧ Below w.heap.size w w' := by
  have HX : Hid (∀ u i, Below w.heap.size w u → i < m → ∃ ad B d, A = some ad ∧ u.cell? (ad.add i) = some (.slice B (X i).n d) ∧ (X i).n ≤ 9223372036854775807) := fun u i hu hi => by
    obtain ⟨ad, e, hc, _, hn⟩ := hX i hi
    exact ⟨ad, _, _, e, (hu.cell (block_lt_of_cell hc)).trans hc, hn⟩
  clear hX
  go_enter Try.func15, Try.ntmps15
  go_wp2
  go_loopw [3, 4] (fun x3 x4 wr => ∃ k : Nat, k ≤ 40 ∧ k ≤ m ∧ x3 = .int .i64 (sumW X k) ∧ x4 = .int .i64 (k : Nat) ∧ Below w.heap.size w wr) (fun _ x4 _ => 40 - (intOf x4).toNat)
  case atStart => exact ⟨0, by omega, by omega, rfl, rfl, Below.refl _ _⟩
  case round =>
    obtain ⟨k, hk, hkm, rfl, rfl, hbl⟩ := hrel
    have HBL := Lib.hid hbl
    obtain ⟨z, hz⟩ : ∃ z, sumW X k = z := ⟨_, rfl⟩
    have HZ := Lib.hid hz
    rw [hz]
    clear hz
    by_cases h1 : k < m
    · have j1 : (k : Int) < (m : Int) := by omega
      by_cases h2 : k < 40
      · have j2 : (k : Int) < 40 := by omega
        obtain ⟨ad, B, d, rfl, hc, hn⟩ := HX.out wr k hbl h1
        obtain ⟨n, hnn⟩ : ∃ n, (X k).n = n := ⟨_, rfl⟩
        have HNN := Lib.hid hnn
        rw [hnn] at hc hn
        have HK : Hid (k < 40 ∧ k < m) := ⟨h2, h1⟩
        clear hbl h1 h2 hk hkm hnn
        go_wp2
        exact ⟨⟨k + 1, by have := HK.out; omega, by have := HK.out; omega, by show _ = Value.int .i64 (wrap64 (sumW X k + ((X k).n : Int))); rw [HZ.out, HNN.out], by rw [Int.natCast_add]; rfl, HBL.out⟩, by simp [intOf]; have := HK.out; omega⟩
      · have j2 : ¬ (k : Int) < 40 := by omega
        have j3 : ¬ (m : Int) < 40 := by omega
        have HM : Hid (¬ m < 40) := Lib.hid (by omega)
        clear h1 h2 hk hbl hkm
        go_wp2
        go_ret
        exact ⟨by unfold fewB; rw [if_neg HM.out]; rfl, HBL.out⟩
    · have j1 : ¬ (k : Int) < (m : Int) := by omega
      by_cases h3 : m < 40
      · have j3 : (m : Int) < 40 := by omega
        have HM : Hid (m < 40 ∧ k = m) := Lib.hid ⟨h3, by omega⟩
        clear h1 h3 hk hbl hkm
        go_wp2
        go_ret
        exact ⟨by unfold fewB; rw [if_pos HM.out.1, ← HM.out.2, HZ.out]; rfl, HBL.out⟩
      · have j3 : ¬ (m : Int) < 40 := by omega
        have HM : Hid (¬ m < 40) := Lib.hid (by omega)
        clear h1 h3 hk hbl hkm
        go_wp2
        go_ret
        exact ⟨by unfold fewB; rw [if_neg HM.out]; rfl, HBL.out⟩
/-- A list of rows that came in: the list in a block that is ours. -/
def AllG (w0 : World) (G : Nat → Prop) (w : World) (v : Value) (rs : List Rec) : Prop :=
  ∃ vs : List Value, w.ownsRow w0.heap.size 35 1 v rs.length vs ∧ (∀ k, v.ownBlock = some k → G k) ∧ ∀ (i : Nat) (r : Rec), rs[i]? = some r → ∃ u, vs[i]? = some u ∧ Byt w0 u r.1 r.2
section
variable {w0 w w' : World} {G G' : Nat → Prop} {v v' : Value} {rs : List Rec}
theorem AllG.nil : AllG w0 G w (.slice none 0 0) [] := ⟨[], ⟨rfl, .inl ⟨rfl, rfl⟩⟩, (fun k h => by cases h), (fun i r h => by simp at h)⟩
theorem AllG.keep (h : AllG w0 G w v rs) (hk : ∀ k, G k → k < w.heap.size → w'.heap[k]? = w.heap[k]?) : AllG w0 G w' v rs := by
  obtain ⟨vs, h1, h2, h3⟩ := h
  refine ⟨vs, ⟨h1.1, ?_⟩, h2, h3⟩
  rcases h1.2 with hn | ⟨g, c, cur, rfl, a1, a2, r⟩
  · exact .inl hn
  · exact .inr ⟨g, c, cur, rfl, a1, (hk g (h2 g rfl) (Array.getElem?_eq_some_iff.1 a2).1).trans a2, r⟩
theorem AllG.kept (h : AllG w0 G w v rs) (hk : Kept G w w') : AllG w0 G w' v rs := h.keep fun k hg _ => hk.1 k hg
theorem AllG.below (h : AllG w0 G w v rs) (hb : Below w.heap.size w w') : AllG w0 G w' v rs := h.keep fun k _ hl => hb.block k hl
theorem AllG.mono (h : AllG w0 G w v rs) (hg : ∀ k, G k → G' k) : AllG w0 G' w v rs := by
  obtain ⟨vs, h1, h2, h3⟩ := h
  exact ⟨vs, h1, fun k hk => hg k (h2 k hk), h3⟩
theorem AllG.form (h : AllG w0 G w v rs) : ∃ A c, v = .slice A rs.length c ∧ ((A = none ∧ rs.length = 0 ∧ c = 0) ∨ ∃ g, A = some ⟨g, 0, none⟩) := by
  obtain ⟨vs, h1, h2, h3⟩ := h
  rcases h1.2 with ⟨e, h0⟩ | ⟨g, c, cur, e, _⟩
  · exact ⟨none, 0, by rw [e, h0], .inl ⟨rfl, h0, rfl⟩⟩
  · exact ⟨_, c, e, .inr ⟨g, rfl⟩⟩
theorem AllG.by_ (h : AllG w0 G w v rs) (hb : Below w0.heap.size w0 w) (hf : ∀ r ∈ rs, r.1 ≤ 1000) : RowsBy w v rs := by
  obtain ⟨vs, h1, h2, h3⟩ := h
  rcases h1.2 with ⟨e, h0⟩ | ⟨g, c, cur, e, _⟩
  · refine ⟨none, 0, by rw [e, h0], fun i r hi => ?_⟩
    have hlt : i < rs.length := (List.getElem?_eq_some_iff.1 hi).1
    omega
  · refine ⟨_, c, e, fun i r hi => ?_⟩
    obtain ⟨u, hu, hbt⟩ := h3 i r hi
    have h1' := h1
    rw [e] at h1'
    have := hf r (List.mem_of_getElem? hi)
    exact ⟨_, u, rfl, h1'.cells rfl i u hu, hbt.below hb, by omega⟩
/-- Rows are appended. -/
theorem AllG.app {vs news : List Value} {rs2 : List Rec} {m : Nat} (h1 : w.ownsRow w0.heap.size 35 1 v rs.length vs) (h2 : ∀ k, v.ownBlock = some k → G k) (h3 : ∀ (i : Nat) (r : Rec), rs[i]? = some r → ∃ u, vs[i]? = some u ∧ Byt w0 u r.1 r.2)
    (hm : rs2.length = m) (hn : ∀ (i : Nat) (r : Rec), rs2[i]? = some r → ∃ u, news[i]? = some u ∧ Byt w0 u r.1 r.2)
    (hown : w'.ownsRow w0.heap.size 35 1 v' (rs.length + m) (vs ++ news)) (hat : v'.ownBlock = v.ownBlock ∨ v'.ownBlock = some w.heap.size) : AllG w0 (fun k => G k ∨ (w.heap.size ≤ k ∧ k < w'.heap.size)) w' v' (rs ++ rs2) := by
  have hvl : vs.length = rs.length := by have := h1.1; simpa using this
  refine ⟨vs ++ news, by rw [List.length_append, hm]; exact hown, fun k e => ?_, fun i r hi => ?_⟩
  · rcases hat with e' | e'
    · exact .inl (h2 k (e' ▸ e))
    · rw [e'] at e
      injection e with e
      subst e
      refine .inr ⟨Nat.le_refl _, ?_⟩
      exact (World.ownsRow.lt hown _ e').2
  · by_cases hlt : i < rs.length
    · rw [List.getElem?_append_left hlt] at hi
      obtain ⟨u, a1, a2⟩ := h3 i r hi
      exact ⟨u, by rw [List.getElem?_append_left (by omega)]; exact a1, a2⟩
    · rw [List.getElem?_append_right (by omega)] at hi
      obtain ⟨u, a1, a2⟩ := hn _ r hi
      exact ⟨u, by rw [List.getElem?_append_right (by omega), hvl]; exact a1, a2⟩
end
/-- The first n rows of a list that came in, as values. -/
theorem rows_vals {w : World} {A : Option Addr} {m : Nat} {R : Nat → RowD} (h : RowsIn w A m R) {n : Nat} (hn : n ≤ m) :
    ∃ news : List Value, news.length = n * 1 ∧ (∀ (j : Nat) (u : Value), news[j]? = some u → ∃ ad, A = some ad ∧ w.cell? (ad.add j) = some u) ∧ (∀ u ∈ news, u.oneCell' = true) ∧ ∀ (i : Nat) (r : Rec), (recsOf R n)[i]? = some r → ∃ u, news[i]? = some u ∧ Byt w u r.1 r.2 := by
  refine ⟨(List.range n).map fun i => (R i).val, by simp, fun j u hu => ?_, fun u hu => ?_, fun i r hi => ?_⟩
  · rw [List.getElem?_map] at hu
    by_cases hj : j < n
    · rw [List.getElem?_range hj] at hu
      simp only [Option.map_some, Option.some.injEq] at hu
      obtain ⟨ad, e, hc, _⟩ := h j (by omega)
      exact ⟨ad, e, by rw [← hu]; exact hc⟩
    · rw [List.getElem?_eq_none (by simpa using hj)] at hu
      simp at hu
  · obtain ⟨i, _, rfl⟩ := List.mem_map.1 hu
    rfl
  · have hin : i < n := by
      have := (List.getElem?_eq_some_iff.1 hi).1
      simpa [recsOf] using this
    have e : (recsOf R n)[i]? = some ((R i).n, (R i).f) := by simp [recsOf, hin]
    rw [e] at hi
    injection hi with hi
    subst hi
    obtain ⟨ad, _, _, hb, _⟩ := h i (by omega)
    exact ⟨(R i).val, by simp [hin], hb⟩
end Go.Proofs.Yteeomidlnijfbaa
