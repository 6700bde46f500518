/- What came in reads as: rows of bytes, lists of them. -/
import Derived.Test.YtmcbmbcfgefocaaPDa
import Derived.Test.YtmcbmbcfgefocaaPGw
namespace Go.Proofs.Ytmcbmbcfgefocaa
open Go.ChangeShapes Go.WideShapes Go.ChangeAt Go.RowKit
set_option linter.unusedSimpArgs false
set_option linter.unusedVariables false

/-- A row of bytes, as it came in. -/
structure RowE where
  A : Option Addr
  n : Nat
  c : Nat
  f : Nat → Nat
abbrev RowE.val (r : RowE) : Value := .slice r.A r.n r.c
def RowE.good (r : RowE) (w : World) : Prop := Byt w (.slice r.A r.n r.c) r.n r.f ∧ r.n ≤ 9223372036854775807
/-- A list of rows. -/
def RowsE (w : World) (A : Option Addr) (n : Nat) (X : Nat → RowE) : Prop := ∀ i, i < n → ∃ ad, A = some ad ∧ w.cell? (ad.add i) = some (X i).val ∧ (X i).good w
section
variable {H : Type} {enc : TypeId × Value → H} {W : World} {base m : Nat} {held : Bool} {c : Value} {y : DataW H × List MemPlace}
set_option maxRecDepth 100000 in
theorem row_trod (h : DataW.trod enc Try.prog W base (fun _ => true) held m 35 [c] = some y) : ∃ r : RowE, c = r.val ∧ r.good W := by
  have hrow : ∃ (s : Option Addr) (l' c' : Nat) (zs : List Int), c = .slice s l' c' ∧ ((s = none ∧ l' = 0 ∧ c' = 0 ∧ zs = []) ∨ ∃ x, s = some x ∧ l' ≤ c' ∧ c' ≤ maxLen ∧ zs.length = c' ∧ (∀ i, i < zs.length → W.cell? (x.add i) = some (.int .u8 (zs.getD i 0))) ∧ ∀ n ∈ zs, (Lit.int .u8 n).wf = true) := by
    rcases open_ints Try.underlying35 Try.underlying5 (by kernel_rfl) h with ⟨hcs, _⟩ | ⟨x, l', c', zs, hcs, _, hl', hm', hz', _, hcell, hwz⟩
    · simp at hcs
      exact ⟨none, 0, 0, [], hcs, .inl ⟨rfl, rfl, rfl, rfl⟩⟩
    · simp at hcs
      exact ⟨some x, l', c', zs, hcs, .inr ⟨x, rfl, hl', hm', by simpa using hz', hcell, hwz⟩⟩
  obtain ⟨a, l', c', zs, rfl, hr⟩ := hrow
  obtain ⟨r1, r2, f, r3, r4⟩ := bytes_of hr
  exact ⟨⟨a, l', c', f⟩, rfl, ⟨a, c', rfl, r1, r3, r4⟩, r2⟩
set_option maxRecDepth 100000 in
theorem rows_trod (h : DataW.trod enc Try.prog W base (fun _ => true) held m 33 [c] = some y) : ∃ (A : Option Addr) (n k : Nat) (X : Nat → RowE), c = .slice A n k ∧ n ≤ 9223372036854775807 ∧ RowsE W A n X := by
  rcases DataW.trod_slice Try.underlying33 h with ⟨hcs, _⟩ | ⟨a, l, k, elems, rest, n, _, hcs, _, hb, hl, hm, hlen, hel, _⟩
  · simp at hcs
    exact ⟨none, 0, 0, fun _ => ⟨none, 0, 0, fun _ => 0⟩, hcs, by omega, fun i hi => absurd hi (by omega)⟩
  · simp at hcs
    have each : ∀ i, ∃ t : RowE, i < l → W.cell? (a.add i) = some t.val ∧ t.good W := fun i => by
      by_cases hi : i < l
      · have he := hel i hi
        obtain ⟨y, hy⟩ : ∃ y, elems[i]? = some y := ⟨elems[i], List.getElem?_eq_getElem (by omega)⟩
        rw [hy, Option.bind_eq_some_iff, cellsRow] at he
        obtain ⟨cs, hc, ht⟩ := he
        obtain ⟨_, hcl, hcc⟩ := World.cells?_some hc
        obtain ⟨c0, rfl⟩ : ∃ c0, cs = [c0] := by
          match cs, hcl with
          | [c0], _ => exact ⟨c0, rfl⟩
        have q0 := hcc 0 (by omega)
        obtain ⟨r, rfl, hr⟩ := row_trod ht
        have e00 : (a.add (i * 1)).add 0 = a.add i := by rw [Nat.mul_one]; rfl
        rw [e00] at q0
        exact ⟨r, fun _ => ⟨q0, hr⟩⟩
      · exact ⟨⟨none, 0, 0, fun _ => 0⟩, fun h => absurd h hi⟩
    obtain ⟨g, hg⟩ := Classical.axiomOfChoice each
    exact ⟨some a, l, k, g, hcs, by simp only [maxLen] at hm; omega, fun i hi => ⟨a, rfl, (hg i hi).1, (hg i hi).2⟩⟩
end
set_option maxRecDepth 100000 in
theorem rows_open {H : Type} {enc : TypeId × Value → H} {W : World} {base b0 : Nat} {held : Bool} {r : Reach} {v : Value} {d : DataW H} {p : List MemPlace} (hv : Value.okWide Try.prog W r b0 33 v) (h : DataW.Trod enc Try.prog W base (fun _ => true) held 33 v d p) :
    ∃ (A : Option Addr) (len cap : Nat) (X : Nat → RowE), v = .slice A len cap ∧ len ≤ 9223372036854775807 ∧ RowsE W A len X := by
  obtain ⟨A, len, cap, rfl⟩ := okWide_slice Try.underlying33 hv
  obtain ⟨fuel, hf⟩ := h
  obtain ⟨A', n, k, X, e, h1, h2⟩ := rows_trod (by simpa [Value.cells] using hf)
  exact ⟨A', n, k, X, e, h1, h2⟩
end Go.Proofs.Ytmcbmbcfgefocaa

/- LedgerLost. -/
namespace Go.Proofs.Ytmcbmbcfgefocaa
open Go.RowKit Go.Shelf
set_option linter.unusedSimpArgs false
set_option linter.unusedVariables false

def sumW (X : Nat → RowD) : Nat → Int
  | 0 => 0
  | k + 1 => wrap64 (sumW X k + ((X k).n : Int))
def fewB (X : Nat → RowD) (m : Nat) : Bool := if m < 40 then decide (sumW X m < 8000) else false
set_option maxRecDepth 100000 in
set_option maxHeartbeats 2000000 in
theorem few7 {w : World} {A : Option Addr} {m c : Nat} {X : Nat → RowD} (hX : RowsIn w A m X) :
    Calls Try.prog 10 #[.slice A m c] w fun e w' => e = .returned (.bool (fewB X m)) ∧ Below w.heap.size w w' := by
  have HX : Hid (∀ u i, Below w.heap.size w u → i < m → ∃ ad B d, A = some ad ∧ u.cell? (ad.add i) = some (.slice B (X i).n d) ∧ (X i).n ≤ 9223372036854775807) := fun u i hu hi => by
    obtain ⟨ad, e, hc, _, hn⟩ := hX i hi
    exact ⟨ad, _, _, e, (hu.cell (block_lt_of_cell hc)).trans hc, hn⟩
  clear hX
  go_enter Try.func10, Try.ntmps10
  go_wp2
  go_loopw [3, 4] (fun x3 x4 wr => ∃ k : Nat, k ≤ 40 ∧ k ≤ m ∧ x3 = .int .i64 (sumW X k) ∧ x4 = .int .i64 (k : Nat) ∧ Below w.heap.size w wr) (fun _ x4 _ => 40 - (intOf x4).toNat)
  case atStart => exact ⟨0, by omega, by omega, rfl, rfl, Below.refl _ _⟩
  case round =>
    obtain ⟨k, hk, hkm, rfl, rfl, hbl⟩ := hrel
    have HBL := Lib.hid hbl
    obtain ⟨z, hz⟩ : ∃ z, sumW X k = z := ⟨_, rfl⟩
    have HZ := Lib.hid hz
    rw [hz]
    clear hz
    by_cases h1 : k < m
    · have j1 : (k : Int) < (m : Int) := by omega
      by_cases h2 : k < 40
      · have j2 : (k : Int) < 40 := by omega
        obtain ⟨ad, B, d, rfl, hc, hn⟩ := HX.out wr k hbl h1
        obtain ⟨n, hnn⟩ : ∃ n, (X k).n = n := ⟨_, rfl⟩
        have HNN := Lib.hid hnn
        rw [hnn] at hc hn
        have HK : Hid (k < 40 ∧ k < m) := ⟨h2, h1⟩
        clear hbl h1 h2 hk hkm hnn
        go_wp2
        exact ⟨⟨k + 1, by have := HK.out; omega, by have := HK.out; omega, by show _ = Value.int .i64 (wrap64 (sumW X k + ((X k).n : Int))); rw [HZ.out, HNN.out], by rw [Int.natCast_add]; rfl, HBL.out⟩, by simp [intOf]; have := HK.out; omega⟩
      · have j2 : ¬ (k : Int) < 40 := by omega
        have j3 : ¬ (m : Int) < 40 := by omega
        have HM : Hid (¬ m < 40) := Lib.hid (by omega)
        clear h1 h2 hk hbl hkm
        go_wp2
        go_ret
        exact ⟨by unfold fewB; rw [if_neg HM.out]; rfl, HBL.out⟩
    · have j1 : ¬ (k : Int) < (m : Int) := by omega
      by_cases h3 : m < 40
      · have j3 : (m : Int) < 40 := by omega
        have HM : Hid (m < 40 ∧ k = m) := Lib.hid ⟨h3, by omega⟩
        clear h1 h3 hk hbl hkm
        go_wp2
        go_ret
        exact ⟨by unfold fewB; rw [if_pos HM.out.1, ← HM.out.2, HZ.out]; rfl, HBL.out⟩
      · have j3 : ¬ (m : Int) < 40 := by omega
        have HM : Hid (¬ m < 40) := Lib.hid (by omega)
        clear h1 h3 hk hbl hkm
        go_wp2
        go_ret
        exact ⟨by unfold fewB; rw [if_neg HM.out]; rfl, HBL.out⟩
/-- A row that came in. -/
def RowE.row (r : RowE) : RowD := ⟨r.A, r.n, r.c, r.f⟩
theorem RowsE.rows {w : World} {A : Option Addr} {n : Nat} {X : Nat → RowE} (h : RowsE w A n X) : RowsIn w A n fun i => (X i).row := fun i hi => by
  obtain ⟨ad, e, h1, h2, h3⟩ := h i hi
  exact ⟨ad, e, h1, h2, h3⟩
section
variable {w0 w w' : World} {gl gd N M g used : Nat} {rs : List Rec} {Z Z' : Nat → Prop}
/-- The power will go ahead of the first or the second write or flush. -/
def Pl (w0 w : World) (gl gd N M g used k : Nat) (Z : Nat → Prop) : Prop := ∃ gq S Q v, Led w0 w gl gd gq (S.plan (k : Int)) Q v [] Z ∧ LedS N M S Q [] ∧ Q.gen = g ∧ Q.ende = Q.first + used
/-- A ledger was lost; its disk is there. -/
def Ls (w0 w : World) (gl gd N M g used : Nat) : Prop := Dg w0 w gd N M g used [] (fun k => k = gl) ∧ w.rowIs gl 56 4 (lv none none (.slice none 0 0) true)
theorem Ls.below (h : Ls w0 w gl gd N M g used) (hb : Below w.heap.size w w') : Ls w0 w' gl gd N M g used := ⟨h.1.below hb, h.2.of_block (hb.block gl h.2.lt)⟩
theorem Lg.plan (h : Lg w0 w gl gd N M g used [] Z) (k : Nat) (hk : k ≤ 2) : Calls Try.prog 20 #[.pointer (some ⟨gd, 0, none⟩), .int .i64 (k : Nat)] w fun e w' => e = .returned (.tuple #[]) ∧ Pl w0 w' gl gd N M g used k Z := by
  obtain ⟨gq, S, Q, v, ⟨h1, h2, h3, h4, h5⟩, hs⟩ := h
  refine (h1.dplan (k : Int) (by omega)).mono ?_
  rintro e w' ⟨rfl, b1, b2⟩
  refine ⟨rfl, gq, S, Q, v, ⟨b1, h2.of_block (b2.1 gl (.inl rfl)), ?_, h4, h5⟩, hs⟩
  obtain ⟨vs, a1, a2⟩ := h3
  refine ⟨vs, ⟨a1.1, ?_⟩, fun i r hi => by simp at hi⟩
  rcases a1.2 with hn | ⟨gg, c, cur, e, c1, c2, r⟩
  · exact .inl hn
  · exact .inr ⟨gg, c, cur, e, c1, (b2.1 gg (.inr (.inl (by rw [e]; rfl)))).trans c2, r⟩
theorem Pl.new {k : Nat} (h : Pl w0 w gl gd N M g used k Z) (hb : Below w.heap.size w w') (hZ : ∀ j, Z' j → Z j ∨ (w.heap.size ≤ j ∧ j < w'.heap.size)) : Pl w0 w' gl gd N M g used k Z' := by
  obtain ⟨gq, S, Q, v, h1, h2⟩ := h
  exact ⟨gq, S, Q, v, h1.new hb hZ, h2⟩
/-- What the loss leaves, until the power is there again. -/
def Lo (w0 w : World) (gl gd N M g used : Nat) : Prop := ∃ S S' Q, LostL w0 w gl gd S' (fun _ => False) ∧ S'.up [] = S ∧ S'.P.length ≤ 1 ∧ LedS N M S Q [] ∧ Q.gen = g ∧ Q.ende = Q.first + used
theorem Pl.append {k : Nat} (hN : 18 ≤ N) (hM : M ≤ 1000000) (h : Pl w0 w gl gd N M g used k Z) (hk : k = 1 ∨ k = 2) (hu : used + 1 ≤ halfN N) {A : Option Addr} {c : Nat} {f : Nat → Nat} (hrec : ∀ V, Kept Z w V → Byt V (.slice A 1 c) 1 f) :
    Calls Try.prog 19 #[.pointer (some ⟨gl, 0, none⟩), .slice A 1 c] w fun e w' => e = .returned (.int .i64 4) ∧ Lo w0 w' gl gd N M g used := by
  obtain ⟨gq, S, Q, v, h1, h2, h3, h4⟩ := h
  have hfree : Q.behind - Q.ende = halfN N - used := by
    have := h2.first
    have := h2.behind
    omega
  have htk : takesC Q 1 (fun _ => (⟨A, 1, c, f⟩ : RowD)) = 0 := by
    have := takes_row (Q := Q) (A := A) (n := 1) (c := c) (f := f) (by omega) (by omega) (by have := h2.top; omega)
    rw [hfree, need_one, if_neg (by omega)] at this
    exact this
  refine (h1.append (by show S.P.length ≤ _; rw [h2.calm.P]; decide) hrec (by omega) (by simp)).mono ?_
  rintro e w' ⟨kk, S', Q', rs', rfl, ha, hk', hc⟩
  have key : ∀ {S' : DS} {Q' : QS} {kk : Int}, AddS (S.plan (k : Int)) Q 1 (fun _ => (⟨A, 1, c, f⟩ : RowD)) S' Q' kk → kk = 4 ∧ S'.up [] = S ∧ S'.P.length ≤ 1 := fun ha => led_lost h2.calm hk rfl htk ha
  have hne : needF 1 ≠ 0 := by rw [need_one]; decide
  cases ha with
  | arg h => exact absurd h hne
  | full h hl => exact absurd hl (by simp)
  | bad h hl ha hk0 =>
    obtain ⟨rfl, a2, a3⟩ := key ha
    rcases hc with ⟨h4', _⟩ | ⟨_, hL⟩
    · exact absurd rfl h4'
    · exact ⟨rfl, S, S', Q, ⟨hL.1.mono fun j hj => hj.elim (fun h => h.elim) .inr, hL.2⟩, a2, a3, h2, h3, h4⟩
  | ok h hl ha =>
    obtain ⟨a1, _⟩ := key ha
    cases a1
theorem Lo.up (h : Lo w0 w gl gd N M g used) : Calls Try.prog 18 #[.pointer (some ⟨gd, 0, none⟩), .slice none 0 0] w fun e w' => e = .returned (.tuple #[]) ∧ Ls w0 w' gl gd N M g used := by
  obtain ⟨S, S', Q, ⟨h1, hr⟩, h2, h3, h4⟩ := h
  have := h1.up (by omega)
  rw [h2] at this
  refine this.mono ?_
  rintro e w' ⟨rfl, b1, b2⟩
  exact ⟨rfl, ⟨S, Q, b1.mono fun j hj => .inr hj, h4⟩, hr.of_block (b2.1 gl (.inr rfl))⟩
end
/-- A row of one byte, made. -/
theorem lit1_rec (w : World) (x : Nat) (hx : x < 256) {Z : Nat → Prop} (hz : Z w.heap.size) : ∀ V, Kept Z (w.alloc (.cells #[.int .u8 (x : Nat)] 5)) V → Byt V (.slice (some ⟨w.heap.size, 0, none⟩) 1 1) 1 (fun _ => x) :=
  rec_block (n := 1) (f := fun _ => x) hz (heap_alloc_new w _) (fun j hj => by obtain rfl : j = 0 := (by omega); rfl) fun j _ => hx
end Go.Proofs.Ytmcbmbcfgefocaa

/- LedgerLost. -/
namespace Go.Proofs.Ytmcbmbcfgefocaa
open Go.RowKit Go.Shelf
set_option linter.unusedSimpArgs false
set_option linter.unusedVariables false

set_option maxRecDepth 100000 in
set_option maxHeartbeats 4000000 in
theorem ledger_lost (w : World) (A : Option Addr) (n c : Nat) (X : Nat → RowE) (s : Nat) (hX : RowsE w A n X) (hs : s < 256) : Calls Try.prog 5 #[.slice A n c, .int .u8 (s : Nat)] w fun e w' => e = .returned (.bool true) ∧ Below w.heap.size w w' := by
  have HAW := Lib.hid (awake9 w)
  obtain ⟨k, hk⟩ : ∃ k, 1 + s % 2 = k := ⟨_, rfl⟩
  have hk12 : k = 1 ∨ k = 2 := by omega
  have hkI : (1 : Int) + (s : Int) % 2 = (k : Int) := by omega
  have HNEW : Hid (∀ u, Below w.heap.size w u → Calls Try.prog 8 #[.int .i64 100] u fun e w' => ∃ gd, e = .returned (.tuple #[.pointer (some ⟨gd, 0, none⟩), .int .i64 0]) ∧ HeldD u w' gd (DS.new 100) (fun _ => False) ∧ Below w.heap.size w w') := Lib.hid fun u hu => (held_disk (N := 100) (by omega) (by omega)).mono fun e w' h => by
    obtain ⟨gd, rfl, h1⟩ := h
    exact ⟨gd, rfl, h1, bbt hu h1.bel⟩
  have HFW : Hid (∀ u, Below w.heap.size w u → Calls Try.prog 10 #[.slice A n c] u fun e w' => e = .returned (.bool (fewB (fun i => (X i).row) n)) ∧ Below u.heap.size u w') := Lib.hid fun u hu => few7 (hX.rows.below hu)
  have HKI := Lib.hid hkI
  have HK := Lib.hid hk12
  have hs2 : (s : Int) < 256 := by omega
  clear hX hk hkI hk12
  generalize fewB (fun i => (X i).row) n = fb at *
  cases fb
  · go_enter Try.func5, Try.ntmps5
    go_wp2_with (first
      | (go_at_call 7; refine HAW.out.mono ?_; rintro e w1 ⟨rfl, hb1⟩; have HB1 := Lib.hid hb1; clear hb1)
      | (go_at_call 8; refine (HNEW.out _ HB1.out).mono ?_; rintro e w2 ⟨gd, rfl, h2, b2⟩; have H2 := Lib.hid h2; have B2 := Lib.hid b2; clear h2 b2)
      | (go_at_call 10; refine (HFW.out _ B2.out).mono ?_; rintro e w3 ⟨rfl, b3⟩; have B3 := Lib.hid (bbt B2.out b3); clear b3))
    go_ret
    exact ⟨rfl, B3.out⟩
  · have HOP : Hid (∀ w1 u gd, HeldD w1 u gd (DS.new 100) (fun _ => False) → Calls Try.prog 9 #[.pointer (some ⟨gd, 0, none⟩)] u fun e w' => ∃ gl, e = .returned (.tuple #[.pointer (some ⟨gl, 0, none⟩), .int .i64 0]) ∧ Lg w1 w' gl gd 100 0 0 0 [] (fun _ => False)) := Lib.hid fun w1 u gd h => by
      refine ((dg_new (by omega) (by omega) h).open_ (by omega) (by omega)).mono ?_
      rintro e w' ⟨gl, rs2, rfl, hs, hl, _⟩
      obtain rfl := same_nil hs
      exact ⟨gl, rfl, hl⟩
    have HPL : Hid (∀ w1 u gl gd, Lg w1 u gl gd 100 0 0 0 [] (fun _ => False) → Calls Try.prog 20 #[.pointer (some ⟨gd, 0, none⟩), .int .i64 (k : Nat)] u fun e w' => e = .returned (.tuple #[]) ∧ Pl w1 w' gl gd 100 0 0 0 k (fun _ => False)) := Lib.hid fun w1 u gl gd h => h.plan k (by rcases HK.out with h | h <;> omega)
    have HA1 : Hid (∀ w1 u gl gd, Pl w1 u gl gd 100 0 0 0 k (fun _ => False) → Calls Try.prog 19 #[.pointer (some ⟨gl, 0, none⟩), .slice (some ⟨u.heap.size, 0, none⟩) 1 1] (u.alloc (.cells #[.int .u8 1] 5)) fun e w' => e = .returned (.int .i64 4) ∧ Lo w1 w' gl gd 100 0 0 0) := Lib.hid fun w1 u gl gd h => by
      have hb := below_new u (.cells #[.int .u8 1] 5)
      have h2 := h.new (Z' := fun k => k = u.heap.size) hb fun k hk => .inr (by subst hk; simp)
      exact h2.append (by omega) (by omega) HK.out (by decide) (lit1_rec u 1 (by decide) rfl)
    have HUP : Hid (∀ w1 u gl gd, Lo w1 u gl gd 100 0 0 0 → Calls Try.prog 18 #[.pointer (some ⟨gd, 0, none⟩), .slice none 0 0] u fun e w' => e = .returned (.tuple #[]) ∧ Ls w1 w' gl gd 100 0 0 0) := Lib.hid fun w1 u gl gd h => h.up
    have HA2 : Hid (∀ w1 u gl gd, Ls w1 u gl gd 100 0 0 0 → Calls Try.prog 19 #[.pointer (some ⟨gl, 0, none⟩), .slice (some ⟨u.heap.size, 0, none⟩) 1 1] (u.alloc (.cells #[.int .u8 2] 5)) fun e w' => e = .returned (.int .i64 4) ∧ Ls w1 w' gl gd 100 0 0 0) := Lib.hid fun w1 u gl gd h => by
      have h2 := h.below (below_new u (.cells #[.int .u8 2] 5))
      exact (append_lost h2.2 _ 1 1).mono fun e w' hp => ⟨hp.1, h2.below hp.2⟩
    have HCO : Hid (∀ w1 u gl gd, Ls w1 u gl gd 100 0 0 0 → Calls Try.prog 12 #[.pointer (some ⟨gl, 0, none⟩), .slice A n c] u fun e w' => e = .returned (.int .i64 4) ∧ Ls w1 w' gl gd 100 0 0 0) := Lib.hid fun w1 u gl gd h => (compact_lost h.2 A n c).mono fun e w' hp => ⟨hp.1, h.below hp.2⟩
    have HRL : Hid (∀ w1 u gl gd, Ls w1 u gl gd 100 0 0 0 → Calls Try.prog 17 #[.pointer (some ⟨gl, 0, none⟩)] u fun e w' => ∃ A7 c7, e = .returned (.slice A7 0 c7) ∧ Ls w1 w' gl gd 100 0 0 0) := Lib.hid fun w1 u gl gd h => (records_lost h.2).mono fun e w' hp => by
      obtain ⟨⟨A7, c7, rfl⟩, hb⟩ := hp
      exact ⟨A7, c7, rfl, h.below hb⟩
    have HFL : Hid (∀ w1 u gl gd, Ls w1 u gl gd 100 0 0 0 → Calls Try.prog 15 #[.pointer (some ⟨gl, 0, none⟩)] u fun e w' => e = .returned (.int .i64 0) ∧ Ls w1 w' gl gd 100 0 0 0) := Lib.hid fun w1 u gl gd h => (free_lost h.2).mono fun e w' hp => ⟨hp.1, by rw [← hp.2]; exact h⟩
    have HUL : Hid (∀ w1 u gl gd, Ls w1 u gl gd 100 0 0 0 → Calls Try.prog 14 #[.pointer (some ⟨gl, 0, none⟩)] u fun e w' => e = .returned (.int .i64 0) ∧ Ls w1 w' gl gd 100 0 0 0) := Lib.hid fun w1 u gl gd h => (used_lost h.2).mono fun e w' hp => ⟨hp.1, by rw [← hp.2]; exact h⟩
    have HGL : Hid (∀ w1 u gl gd, Ls w1 u gl gd 100 0 0 0 → Calls Try.prog 13 #[.pointer (some ⟨gl, 0, none⟩)] u fun e w' => e = .returned (.int .u32 0) ∧ Ls w1 w' gl gd 100 0 0 0) := Lib.hid fun w1 u gl gd h => (gen_lost h.2).mono fun e w' hp => ⟨hp.1, by rw [← hp.2]; exact h⟩
    have HO2 : Hid (∀ w1 u gl gd, Ls w1 u gl gd 100 0 0 0 → Calls Try.prog 9 #[.pointer (some ⟨gd, 0, none⟩)] u fun e w' => ∃ g2, e = .returned (.tuple #[.pointer (some ⟨g2, 0, none⟩), .int .i64 0]) ∧ Lg w1 w' g2 gd 100 0 0 0 [] (fun _ => False)) := Lib.hid fun w1 u gl gd h => by
      refine (h.1.open_ (by omega) (by omega)).mono ?_
      rintro e w' ⟨g2, rs2, rfl, hs, hl, _⟩
      obtain rfl := same_nil hs
      exact ⟨g2, rfl, hl.less fun k hk => hk.elim⟩
    have HA3 : Hid (∀ w1 u gl gd, Lg w1 u gl gd 100 0 0 0 [] (fun _ => False) → Calls Try.prog 19 #[.pointer (some ⟨gl, 0, none⟩), .slice (some ⟨u.heap.size, 0, none⟩) 1 1] (u.alloc (.cells #[.int .u8 3] 5)) fun e w' => e = .returned (.int .i64 0) ∧ Lg w1 w' gl gd 100 1 0 1 [(1, fun _ => 3)] (fun _ => False)) := Lib.hid fun w1 u gl gd h => by
      have hb := below_new u (.cells #[.int .u8 3] 5)
      have h2 := h.new (Z' := fun k => k = u.heap.size) hb fun k hk => .inr (by subst hk; simp)
      refine (h2.append (by omega) (by omega) (by omega) (lit1_rec u 3 (by decide) rfl) (by omega) (by omega)).mono ?_
      rintro e w' ⟨_, ⟨_, rfl, hl⟩ | ⟨hno, _⟩⟩
      · exact ⟨rfl, hl.less fun k hk => hk.elim⟩
      · exact absurd ⟨by decide, by decide⟩ hno
    have HRC : Hid (∀ w1 u gl gd, Lg w1 u gl gd 100 1 0 1 [(1, fun _ => 3)] (fun _ => False) → Below w.heap.size w w1 → Calls Try.prog 17 #[.pointer (some ⟨gl, 0, none⟩)] u fun e w' => ∃ A c, e = .returned (.slice A 1 c) ∧ Below w.heap.size w w') := Lib.hid fun w1 u gl gd h hb1 => by
      refine h.records.mono ?_
      rintro e w' ⟨⟨v', rfl, hl⟩, hb⟩
      obtain ⟨A, c, rfl⟩ := hl.form
      exact ⟨A, c, rfl, bbt (bbt hb1 h.bel) hb⟩
    go_enter Try.func5, Try.ntmps5
    go_wp2_with (first
      | (go_at_call 7; refine HAW.out.mono ?_; rintro e w1 ⟨rfl, hb1⟩; have HB1 := Lib.hid hb1; clear hb1)
      | (go_at_call 8; refine (HNEW.out _ HB1.out).mono ?_; rintro e w2 ⟨gd, rfl, h2, b2⟩; have H2 := Lib.hid h2; have B2 := Lib.hid b2; clear h2 b2)
      | (go_at_call 10; refine (HFW.out _ B2.out).mono ?_; rintro e w3 ⟨rfl, b3⟩; have H3 := Lib.hid (H2.out.below b3); clear b3)
      | (have _t := H9; clear _t; go_at_call 9; refine (HO2.out _ _ _ _ H9.out).mono ?_; rintro e w10 ⟨g2, rfl, h10⟩; have H10 := Lib.hid h10; clear h10)
      | (go_at_call 9; refine (HOP.out _ _ _ H3.out).mono ?_; rintro e w4 ⟨gl, rfl, h4⟩; have H4 := Lib.hid h4; clear h4)
      | (go_at_call 20; rw [HKI.out]; refine (HPL.out _ _ _ _ H4.out).mono ?_; rintro e w5 ⟨rfl, h5⟩; have H5 := Lib.hid h5; clear h5)
      | (have _t := H10; clear _t; go_at_call 19; refine (HA3.out _ _ _ _ H10.out).mono ?_; rintro e w11 ⟨rfl, h11⟩; have H11 := Lib.hid h11; clear h11)
      | (have _t := H7; clear _t; go_at_call 19; refine (HA2.out _ _ _ _ H7.out).mono ?_; rintro e w8 ⟨rfl, h8⟩; have H8 := Lib.hid h8; clear h8)
      | (go_at_call 19; refine (HA1.out _ _ _ _ H5.out).mono ?_; rintro e w6 ⟨rfl, h6⟩; have H6 := Lib.hid h6; clear h6)
      | (go_at_call 18; refine (HUP.out _ _ _ _ H6.out).mono ?_; rintro e w7 ⟨rfl, h7⟩; have H7 := Lib.hid h7; clear h7)
      | (go_at_call 12; refine (HCO.out _ _ _ _ H8.out).mono ?_; rintro e w81 ⟨rfl, h81⟩; have H81 := Lib.hid h81; clear h81)
      | (have _t := H11; clear _t; go_at_call 17; refine (HRC.out _ _ _ _ H11.out B1X.out).mono ?_; rintro e w12 ⟨A12, c12, rfl, b12⟩; have B12 := Lib.hid b12; clear b12)
      | (go_at_call 17; refine (HRL.out _ _ _ _ H81.out).mono ?_; rintro e w82 ⟨A82, c82, rfl, h82⟩; have H82 := Lib.hid h82; clear h82)
      | (go_at_call 15; refine (HFL.out _ _ _ _ H82.out).mono ?_; rintro e w83 ⟨rfl, h83⟩; have H83 := Lib.hid h83; clear h83)
      | (go_at_call 14; refine (HUL.out _ _ _ _ H83.out).mono ?_; rintro e w84 ⟨rfl, h84⟩; have H84 := Lib.hid h84; clear h84)
      | (go_at_call 13; refine (HGL.out _ _ _ _ H84.out).mono ?_; rintro e w85 ⟨rfl, h85⟩; have H9 := Lib.hid h85; have B1X := HB1; clear h85))
    go_ret
    exact ⟨rfl, B12.out⟩
end Go.Proofs.Ytmcbmbcfgefocaa
