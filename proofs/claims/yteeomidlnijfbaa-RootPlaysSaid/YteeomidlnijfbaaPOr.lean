/- What a cell, and a list of cells, that came in read as. -/
import Derived.Test.YteeomidlnijfbaaPKx
import Derived.ProofKit
import Derived.OpenShut
import Derived.Lib.SmallJoins
import Derived.Test.YteeomidlnijfbaaPOq
namespace Go.Proofs.Yteeomidlnijfbaa
open Go.ChangeShapes Go.WideShapes Go.ChangeAt Go.RowKit
set_option linter.unusedSimpArgs false
set_option linter.unusedVariables false

theorem cellsInt : Try.prog.cellsOf 3 = 1 := by kernel_rfl
theorem cellsU32 : Try.prog.cellsOf 31 = 1 := by kernel_rfl
theorem cellsRow : Try.prog.cellsOf 35 = 1 := by kernel_rfl
section
variable {P : Program} {H : Type} {enc : TypeId × Value → H} {w : World} {base : Nat} {spare : Nat → Bool} {held : Bool}
end
theorem bytes_of {w : World} {a : Option Addr} {len cap : Nat} {zs : List Int}
    (h : (a = none ∧ len = 0 ∧ cap = 0 ∧ zs = []) ∨ ∃ x, a = some x ∧ len ≤ cap ∧ cap ≤ maxLen ∧ zs.length = cap ∧ (∀ i, i < zs.length → w.cell? (x.add i) = some (.int .u8 (zs.getD i 0))) ∧ ∀ n ∈ zs, (Lit.int .u8 n).wf = true) :
    len ≤ cap ∧ len ≤ 9223372036854775807 ∧ ∃ f, Rd .u8 w a len f ∧ ∀ j, j < len → f j < 256 := by
  rcases h with ⟨rfl, rfl, rfl, rfl⟩ | ⟨x, rfl, hl, hm, hz, hcell, hwf⟩
  · exact ⟨Nat.le_refl _, by omega, fun _ => 0, Rd.zero, fun j hj => absurd hj (by omega)⟩
  · have hb : ∀ j, j < len → 0 ≤ zs.getD j 0 ∧ zs.getD j 0 < 256 := fun j hj => by
      have hjl : j < zs.length := by omega
      have hmem : zs.getD j 0 ∈ zs := by
        rw [List.getD, List.getElem?_eq_getElem hjl]; exact List.getElem_mem hjl
      have := hwf _ hmem
      generalize zs.getD j 0 = q at this ⊢
      simp [Lit.wf, IntKind.min, IntKind.max, IntKind.bits, IntKind.signed] at this
      omega
    refine ⟨hl, by simp only [maxLen] at hm; omega, fun j => (zs.getD j 0).toNat, fun j hj => ⟨x, rfl, ?_⟩, fun j hj => by
      have := hb j hj
      show (zs.getD j 0).toNat < 256
      generalize zs.getD j 0 = q at this ⊢
      omega⟩
    rw [hcell j (by omega), Int.toNat_of_nonneg (hb j hj).1]

end Go.Proofs.Yteeomidlnijfbaa

/- What came in reads as: rows of bytes, lists of them. -/
namespace Go.Proofs.Yteeomidlnijfbaa
open Go.ChangeShapes Go.WideShapes Go.ChangeAt Go.RowKit
set_option linter.unusedSimpArgs false
set_option linter.unusedVariables false

/-- A row of bytes, as it came in. -/
structure RowE where
  A : Option Addr
  n : Nat
  c : Nat
  f : Nat → Nat
abbrev RowE.val (r : RowE) : Value := .slice r.A r.n r.c
def RowE.good (r : RowE) (w : World) : Prop := Byt w (.slice r.A r.n r.c) r.n r.f ∧ r.n ≤ 9223372036854775807
theorem RowE.good.below {r : RowE} {w w' : World} (h : r.good w) (hb : Below w.heap.size w w') : r.good w' := ⟨h.1.below hb, h.2⟩
section
variable {H : Type} {enc : TypeId × Value → H} {W : World} {base m : Nat} {held : Bool} {c : Value} {y : DataW H × List MemPlace}
set_option maxRecDepth 100000 in
theorem row_trod (h : DataW.trod enc Try.prog W base (fun _ => true) held m 35 [c] = some y) : ∃ r : RowE, c = r.val ∧ r.good W := by
  have hrow : ∃ (s : Option Addr) (l' c' : Nat) (zs : List Int), c = .slice s l' c' ∧ ((s = none ∧ l' = 0 ∧ c' = 0 ∧ zs = []) ∨ ∃ x, s = some x ∧ l' ≤ c' ∧ c' ≤ maxLen ∧ zs.length = c' ∧ (∀ i, i < zs.length → W.cell? (x.add i) = some (.int .u8 (zs.getD i 0))) ∧ ∀ n ∈ zs, (Lit.int .u8 n).wf = true) := by
    rcases open_ints Try.underlying35 Try.underlying5 (by kernel_rfl) h with ⟨hcs, _⟩ | ⟨x, l', c', zs, hcs, _, hl', hm', hz', _, hcell, hwz⟩
    · simp at hcs
      exact ⟨none, 0, 0, [], hcs, .inl ⟨rfl, rfl, rfl, rfl⟩⟩
    · simp at hcs
      exact ⟨some x, l', c', zs, hcs, .inr ⟨x, rfl, hl', hm', by simpa using hz', hcell, hwz⟩⟩
  obtain ⟨a, l', c', zs, rfl, hr⟩ := hrow
  obtain ⟨r1, r2, f, r3, r4⟩ := bytes_of hr
  exact ⟨⟨a, l', c', f⟩, rfl, ⟨a, c', rfl, r1, r3, r4⟩, r2⟩
end
end Go.Proofs.Yteeomidlnijfbaa

/- Acts of RootPlays that came in; both disks beside each other. -/
namespace Go.Proofs.Yteeomidlnijfbaa
open Go.ChangeShapes Go.WideShapes Go.ChangeAt Go.RowKit
set_option linter.unusedSimpArgs false
set_option linter.unusedVariables false

structure Act8 where
  K : Int
  G : Nat
  I : Int
  r : RowE
def Act8At (w : World) (p : Addr) (a : Act8) : Prop :=
  w.cell? p = some (.int .i64 a.K) ∧ w.cell? ⟨p.block, p.off + 1, none⟩ = some (.int .u32 (a.G : Nat)) ∧ w.cell? ⟨p.block, p.off + 2, none⟩ = some (.int .i64 a.I) ∧ w.cell? ⟨p.block, p.off + 3, none⟩ = some a.r.val ∧ a.r.good w ∧ a.G < 4294967296 ∧ -9223372036854775808 ≤ a.I ∧ a.I ≤ 9223372036854775807
def Acts8 (w : World) (A : Option Addr) (n : Nat) (X : Nat → Act8) : Prop := ∀ i, i < n → ∃ ad, A = some ad ∧ Act8At w (ad.add (i * 4)) (X i)
theorem Act8At.below {w w' : World} {p : Addr} {a : Act8} (h : Act8At w p a) (hb : Below w.heap.size w w') : Act8At w' p a := by
  obtain ⟨h0, h1, h2, h3, h4, h5⟩ := h
  exact ⟨(hb.cell (block_lt_of_cell h0)).trans h0, (hb.cell (block_lt_of_cell h1)).trans h1, (hb.cell (block_lt_of_cell h2)).trans h2, (hb.cell (block_lt_of_cell h3)).trans h3, h4.below hb, h5⟩
theorem cellsAct8 : Try.prog.cellsOf 54 = 4 := by kernel_rfl
section
variable {P : Program} {H : Type} {enc : TypeId × Value → H} {w : World} {base : Nat} {spare : Nat → Bool} {held : Bool}
theorem trod_struct4 {t : TypeId} {f0 f1 f2 f3 : Field} {fuel : Nat} {cs : List Value} {x : DataW H × List MemPlace} (ht : P.underlying t = some (.struct #[f0, f1, f2, f3])) (h : DataW.trod enc P w base spare held fuel t cs = some x) :
    ∃ y0 y1 y2 y3 n, DataW.trod enc P w base spare held n f0.type ((cs.drop f0.offset).take (P.cellsOf f0.type)) = some y0 ∧
      DataW.trod enc P w base spare held n f1.type ((cs.drop f1.offset).take (P.cellsOf f1.type)) = some y1 ∧ DataW.trod enc P w base spare held n f2.type ((cs.drop f2.offset).take (P.cellsOf f2.type)) = some y2 ∧
      DataW.trod enc P w base spare held n f3.type ((cs.drop f3.offset).take (P.cellsOf f3.type)) = some y3 := by
  obtain ⟨xs, n, _, rfl, hl, hlen, hf⟩ := DataW.trod_struct ht h
  match xs, hlen with
  | [y0, y1, y2, y3], _ => exact ⟨y0, y1, y2, y3, n, by simpa using hf 0 f0 rfl, by simpa using hf 1 f1 rfl, by simpa using hf 2 f2 rfl, by simpa using hf 3 f3 rfl⟩
end
set_option maxRecDepth 100000 in
theorem acts8_open {H : Type} {enc : TypeId × Value → H} {W : World} {base b0 : Nat} {held : Bool} {r : Reach} {v : Value} {d : DataW H} {p : List MemPlace} (hv : Value.okWide Try.prog W r b0 50 v) (h : DataW.Trod enc Try.prog W base (fun _ => true) held 50 v d p) :
    ∃ (A : Option Addr) (len cap : Nat) (X : Nat → Act8), v = .slice A len cap ∧ len ≤ 9223372036854775807 ∧ Acts8 W A len X := by
  obtain ⟨A, len, cap, rfl⟩ := okWide_slice Try.underlying50 hv
  obtain ⟨fuel, hf⟩ := h
  rcases DataW.trod_slice Try.underlying50 hf with ⟨hcs, _⟩ | ⟨a, l, c, elems, rest, n, _, hcs, _, hb, hl, hm, hlen, hel, _⟩
  · simp [Value.cells] at hcs
    obtain ⟨rfl, rfl, rfl⟩ := hcs
    exact ⟨none, 0, 0, fun _ => ⟨0, 0, 0, ⟨none, 0, 0, fun _ => 0⟩⟩, rfl, by omega, fun i hi => absurd hi (by omega)⟩
  · simp [Value.cells] at hcs
    obtain ⟨rfl, rfl, rfl⟩ := hcs
    have each : ∀ i, ∃ t : Act8, i < len → Act8At W (a.add (i * 4)) t := fun i => by
      by_cases hi : i < len
      · have he := hel i hi
        obtain ⟨y, hy⟩ : ∃ y, elems[i]? = some y := ⟨elems[i], List.getElem?_eq_getElem (by omega)⟩
        rw [hy, Option.bind_eq_some_iff, cellsAct8] at he
        obtain ⟨cs, hc, ht⟩ := he
        obtain ⟨_, hcl, hcc⟩ := World.cells?_some hc
        obtain ⟨c0, c1, c2, c3, rfl⟩ : ∃ c0 c1 c2 c3, cs = [c0, c1, c2, c3] := by
          match cs, hcl with
          | [c0, c1, c2, c3], _ => exact ⟨c0, c1, c2, c3, rfl⟩
        have q0 := hcc 0 (by omega)
        have q1 := hcc 1 (by omega)
        have q2 := hcc 2 (by omega)
        have q3 := hcc 3 (by omega)
        obtain ⟨y0, y1, y2, y3, m, h0, h1, h2, h3⟩ := trod_struct4 Try.underlying54 ht
        simp only [cellsInt, cellsU32, cellsRow, List.drop_zero, List.drop_succ_cons, List.take_succ_cons, List.take_zero] at h0 h1 h2 h3
        obtain ⟨k, e0, _, f0⟩ := DataW.trod_int Try.underlying3 h0
        obtain ⟨g, e1, _, f1⟩ := DataW.trod_int Try.underlying31 h1
        obtain ⟨j, e2, _, f2⟩ := DataW.trod_int Try.underlying3 h2
        obtain ⟨r, e3, hr⟩ := row_trod h3
        simp at e0 e1 e2
        subst e0 e1 e2 e3
        have b1 : 0 ≤ g ∧ g < 4294967296 := by simp [Lit.wf, IntKind.min, IntKind.max, IntKind.bits, IntKind.signed] at f1; omega
        have b2 : -9223372036854775808 ≤ j ∧ j ≤ 9223372036854775807 := by simp [Lit.wf, IntKind.min, IntKind.max, IntKind.bits, IntKind.signed] at f2; omega
        obtain ⟨g, rfl⟩ : ∃ k : Nat, g = k := ⟨g.toNat, by omega⟩
        have e00 : (a.add (i * 4)).add 0 = a.add (i * 4) := rfl
        rw [e00] at q0
        exact ⟨⟨k, g, j, r⟩, fun _ => ⟨q0, q1, q2, q3, hr, by show g < _; omega, b2.1, b2.2⟩⟩
      · exact ⟨⟨0, 0, 0, ⟨none, 0, 0, fun _ => 0⟩⟩, fun h => absurd h hi⟩
    obtain ⟨g, hg⟩ := Classical.axiomOfChoice each
    exact ⟨some a, len, cap, g, rfl, by simp only [maxLen] at hm; omega, fun i hi => ⟨a, rfl, hg i hi⟩⟩
section
variable {w0 w w' : World} {gd g t t' : Nat} {S S' R R' : DS} {Φ Ψ : World → Prop}
theorem Two.save1 (h : Two w0 w gd g t S R Φ) (hP : S.P.length ≤ 900000) (x : Nat) (hx : x < 4294967296) : Calls Try.prog 25 #[.pointer (some ⟨gd, 0, none⟩), .int .u32 (x : Nat)] w fun e w' => e = .returned (.int .i64 (S.save x).2) ∧ Two w0 w' gd g t (S.save x).1 R Φ :=
  h.post1 (E := fun e => e = .returned (.int .i64 (S.save x).2)) fun F hF _ => save_any hF hP x hx
theorem Two.save2 (h : Two w0 w gd g t S R Φ) (ht : t ≤ 900000) (hP : R.P.length ≤ 900000) (x : Nat) (hx : x < 4294967296) : Calls Try.prog 26 #[.pointer (some ⟨g, 0, none⟩), .int .u32 (x : Nat)] w fun e w' => e = .returned (.int .i64 (R.save x).2) ∧ Two w0 w' gd g (t + 2) S (R.save x).1 Φ :=
  h.post2 (E := fun e => e = .returned (.int .i64 (R.save x).2)) fun G hG _ _ => rsave_any hG ht hP x hx
theorem Two.load1 (h : Two w0 w gd g t S R Φ) : Calls Try.prog 31 #[.pointer (some ⟨gd, 0, none⟩)] w fun e w' => e = .returned (.tuple #[.int .u32 (S.load.1 : Nat), .int .i64 S.load.2]) ∧ Two w0 w' gd g t S R Φ := by
  obtain ⟨F, G, Z, hF, _⟩ := id h
  exact (load_any hF).mono fun e w' hp => ⟨hp.1, h.below hp.2⟩
theorem Two.load2 (h : Two w0 w gd g t S R Φ) (hP : R.P.length ≤ 900000) : Calls Try.prog 32 #[.pointer (some ⟨g, 0, none⟩)] w fun e w' => e = .returned (.tuple #[.int .u32 (R.load.1 : Nat), .int .i64 R.load.2]) ∧ Two w0 w' gd g t S R Φ := by
  obtain ⟨F, G, Z, hF, hG, _⟩ := id h
  exact (rload_any hG (by omega)).mono fun e w' hp => ⟨hp.1, h.below hp.2⟩
theorem save_len (S : DS) (x : Nat) : (S.save x).1.P.length ≤ S.P.length + 1 := by
  unfold DS.save
  split
  · exact Nat.le_succ _
  · have h1 := write_len S ((x % 2 : Nat) : Int) (rootF x)
    split
    · have : ∀ S : DS, S.flush.1.P.length ≤ S.P.length := fun S => by
        unfold DS.flush
        split
        · exact Nat.le_refl _
        · split
          · exact Nat.zero_le _
          · rw [(begun_P S).2.1]; exact Nat.le_refl _
      exact Nat.le_trans (this _) h1
    · exact h1
theorem Two.alikeR (h : Two w0 w gd g t S R Φ) {u v : Value} {T : Nat → Option (Nat → Nat)} {n : Nat} (hn : n ≤ 512) (hu : Img Any w u n T) (hv : Img Any w v n T) :
    Calls Try.prog 19 #[u, v] w fun e w' => e = .returned (.bool true) ∧ Two w0 w' gd g t S R Φ :=
  (alike_yes hu hv hn fun _ _ => SameO.refl _).mono fun _ _ ⟨h1, h2⟩ => ⟨h1, h.below h2⟩
end
end Go.Proofs.Yteeomidlnijfbaa
