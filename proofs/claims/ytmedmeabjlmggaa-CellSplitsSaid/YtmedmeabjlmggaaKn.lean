/- What is encoded is decoded; what is split is joined; the contracts in the words of the laws. -/
import Derived.Test.YtmedmeabjlmggaaKf2
import Derived.Test.YtmedmeabjlmggaaKi
import Derived.Test.YtmedmeabjlmggaaKj
import Derived.Test.YtmedmeabjlmggaaKg
namespace Go.Proofs.Ytmedmeabjlmggaa
open Go.RowKit
set_option linter.unusedSimpArgs false
set_option linter.unusedVariables false

theorem sect_body (g s p q n : Nat) (f : Nat → Nat) (j : Nat) : sectF g s p q n f (4 + j) = bodyF g s p q n f j := seal_behind _ _ _
theorem num_word {x : Nat} {h : Nat → Nat} (hx : x < 4294967296) (hh : ∀ j, j < 4 → h j = x / 256 ^ j % 256) : num 256 h 4 = x :=
  (four_num (fun j hj => by rw [hh j hj]; exact Nat.mod_lt _ (by decide)) hx).2 hh
theorem sect_dec {g s p q n : Nat} {f : Nat → Nat} (hg : g < 4294967296) (hs : s < 4294967296) (hm : mayP (p : Nat) (q : Nat) n) (hf : ∀ j, j < n → f j < 256) :
    decP 64 (sectF g s p q n f) ∧ num 256 (fun j => sectF g s p q n f (4 + j)) 4 = g ∧ num 256 (fun j => sectF g s p q n f (8 + j)) 4 = s ∧ sectF g s p q n f 12 = p ∧ sectF g s p q n f 13 = q ∧ sectF g s p q n f 14 = n ∧ ∀ j, j < n → sectF g s p q n f (15 + j) = f j := by
  have hm2 := hm
  unfold mayP at hm2
  have e12 : sectF g s p q n f 12 = p := by rw [show 12 = 4 + 8 from rfl, sect_body]; simp [bodyF]
  have e13 : sectF g s p q n f 13 = q := by rw [show 13 = 4 + 9 from rfl, sect_body]; simp [bodyF]
  have e14 : sectF g s p q n f 14 = n := by rw [show 14 = 4 + 10 from rfl, sect_body]; simp [bodyF]
  refine ⟨⟨rfl, openB_seal (bodyF_lt (by omega) (by omega) (by omega) hf), by rw [e14]; omega, by rw [e12, e13, e14]; exact hm, fun j h1 h2 => ?_⟩, num_word hg fun j hj => ?_, num_word hs fun j hj => ?_, e12, e13, e14, fun j hj => ?_⟩
  · rw [e14] at h1
    rw [show j = 4 + (j - 4) from by omega, sect_body]
    unfold bodyF
    rw [if_neg (by omega), if_neg (by omega), if_neg (by omega), if_neg (by omega), if_neg (by omega), if_neg (by omega)]
  · show sectF g s p q n f (4 + j) = _
    rw [sect_body]
    unfold bodyF
    rw [if_pos hj]
  · show sectF g s p q n f (8 + j) = _
    rw [show 8 + j = 4 + (4 + j) from by omega, sect_body]
    unfold bodyF
    rw [if_neg (by omega), if_pos (by omega), Nat.add_sub_cancel_left]
  · rw [show 15 + j = 4 + (11 + j) from by omega, sect_body]
    unfold bodyF
    rw [if_neg (by omega), if_neg (by omega), if_neg (by omega), if_neg (by omega), if_neg (by omega), if_pos (by omega), Nat.add_sub_cancel_left]

/-- A cell's value, by whatever numbers. -/
abbrev cellI (g s p q : Int) (A : Option Addr) (n c : Nat) : Value := .agg #[.int .u32 g, .int .u32 s, .int .i64 p, .int .i64 q, .slice A n c]
def u32I (g : Int) : Prop := 0 ≤ g ∧ g < 4294967296
section
variable {w : World} {g s p q : Int} {A : Option Addr} {n c : Nat} {f : Nat → Nat} {v : Value}
theorem may_i (hg : u32I g) (hs : u32I s) (hn : n ≤ 9223372036854775807) : Calls Try.prog 30 #[cellI g s p q A n c] w fun e w' => e = .returned (.bool (decide (mayP p q n))) ∧ Below w.heap.size w w' := by
  obtain ⟨g, rfl⟩ : ∃ k : Nat, g = k := ⟨g.toNat, by unfold u32I at hg; omega⟩
  obtain ⟨s, rfl⟩ : ∃ k : Nat, s = k := ⟨s.toNat, by unfold u32I at hs; omega⟩
  exact may_any g s p q A n c w hn
theorem encode_i (hg : u32I g) (hs : u32I s) (hr : Rd .u8 w A n f) (hf : ∀ j, j < n → f j < 256) (hm : mayP p q n) : Calls Try.prog 28 #[cellI g s p q A n c] w fun e w' => (∃ v, e = .returned (.tuple #[v, .int .i64 0]) ∧ Byt w' v 64 (sectF g.toNat s.toNat p.toNat q.toNat n f)) ∧ Below w.heap.size w w' := by
  have hm2 := hm
  unfold mayP at hm2
  obtain ⟨g, rfl⟩ : ∃ k : Nat, g = k := ⟨g.toNat, by unfold u32I at hg; omega⟩
  obtain ⟨s, rfl⟩ : ∃ k : Nat, s = k := ⟨s.toNat, by unfold u32I at hs; omega⟩
  obtain ⟨p, rfl⟩ : ∃ k : Nat, p = k := ⟨p.toNat, by omega⟩
  obtain ⟨q, rfl⟩ : ∃ k : Nat, q = k := ⟨q.toNat, by omega⟩
  have := encode_yes g s p q A n c f w (by unfold u32I at hg; omega) (by unfold u32I at hs; omega) hr hf hm
  simpa using this
theorem encode_ino (hg : u32I g) (hs : u32I s) (hn : n ≤ 9223372036854775807) (hm : ¬ mayP p q n) : Calls Try.prog 28 #[cellI g s p q A n c] w fun e w' => e = .returned (.tuple #[.slice none 0 0, .int .i64 1]) ∧ Below w.heap.size w w' := by
  obtain ⟨g, rfl⟩ : ∃ k : Nat, g = k := ⟨g.toNat, by unfold u32I at hg; omega⟩
  obtain ⟨s, rfl⟩ : ∃ k : Nat, s = k := ⟨s.toNat, by unfold u32I at hs; omega⟩
  exact encode_no g s p q A n c w hn hm
/-- What is encoded is decoded. -/
theorem decode_i (hg : u32I g) (hs : u32I s) (hm : mayP p q n) (hf : ∀ j, j < n → f j < 256) (h : Byt w v 64 (sectF g.toNat s.toNat p.toNat q.toNat n f)) :
    Calls Try.prog 29 #[v] w fun e w' => (∃ B c, e = .returned (.tuple #[cellI g s p q B n c, .int .i64 0]) ∧ Byt w' (.slice B n c) n f) ∧ Below w.heap.size w w' := by
  have hm2 := hm
  unfold mayP at hm2
  obtain ⟨g, rfl⟩ : ∃ k : Nat, g = k := ⟨g.toNat, by unfold u32I at hg; omega⟩
  obtain ⟨s, rfl⟩ : ∃ k : Nat, s = k := ⟨s.toNat, by unfold u32I at hs; omega⟩
  obtain ⟨p, rfl⟩ : ∃ k : Nat, p = k := ⟨p.toNat, by omega⟩
  obtain ⟨q, rfl⟩ : ∃ k : Nat, q = k := ⟨q.toNat, by omega⟩
  simp only [Int.toNat_natCast] at h
  obtain ⟨d1, d2, d3, d4, d5, d6, d7⟩ := sect_dec (g := g) (s := s) (p := p) (q := q) (n := n) (f := f) (by unfold u32I at hg; omega) (by unfold u32I at hs; omega) hm hf
  refine (decode_by h (by omega)).mono ?_
  rintro e w' ⟨hp, hb⟩
  refine ⟨?_, hb⟩
  rcases hp with ⟨_, B, c, rfl, hv, _⟩ | ⟨hno, _⟩
  · rw [d2, d3, d4, d5, d6]
    rw [d6] at hv
    exact ⟨B, c, rfl, hv.cast rfl d7⟩
  · exact absurd d1 hno
theorem decode_ino {m : Nat} {h : Nat → Nat} (hv : Byt w v m h) (hm : m ≤ 9223372036854775807) (hd : ¬ decP m h) :
    Calls Try.prog 29 #[v] w fun e w' => e = .returned (.tuple #[cellI 0 0 0 0 none 0 0, .int .i64 2]) ∧ Below w.heap.size w w' := by
  refine (decode_by hv hm).mono ?_
  rintro e w' ⟨hp, hb⟩
  rcases hp with ⟨hy, _⟩ | ⟨_, he⟩
  · exact absurd hy hd
  · exact ⟨he, hb⟩
theorem need_i (hn : 0 ≤ p) (hn2 : p ≤ 9223372036854775807) : Calls Try.prog 15 #[.int .i64 p] w fun e w' => e = .returned (.int .i64 (needF p.toNat : Nat)) ∧ w' = w := by
  obtain ⟨p, rfl⟩ : ∃ k : Nat, p = k := ⟨p.toNat, by omega⟩
  exact need_any p w (by omega)
theorem split_ino (hg : u32I g) (hs : u32I s) (hv : Byt w v n f) (hn : n ≤ 9223372036854775807) (hz : needF n = 0) :
    Calls Try.prog 9 #[.int .u32 g, .int .u32 s, v] w fun e w' => e = .returned (.tuple #[.slice none 0 0, .int .i64 1]) ∧ Below w.heap.size w w' := by
  obtain ⟨g, rfl⟩ : ∃ k : Nat, g = k := ⟨g.toNat, by unfold u32I at hg; omega⟩
  obtain ⟨s, rfl⟩ : ∃ k : Nat, s = k := ⟨s.toNat, by unfold u32I at hs; omega⟩
  refine (split_by (by unfold u32I at hg; omega) (by unfold u32I at hs; omega) hv hn).mono ?_
  rintro e w' ⟨⟨_, he⟩ | ⟨h0, _⟩, hb⟩
  · exact ⟨he, hb⟩
  · exact absurd hz h0
/-- A record's cells in memory. -/
def Parts (w : World) (g s : Int) (n : Nat) (f : Nat → Nat) (v : Value) : Prop := ∃ ad c X, v = .slice (some ad) (needF n) c ∧ needF n ≤ c ∧ CellsAt w (some ad) (needF n) X ∧ ∀ i, i < needF n → PartOf g.toNat s.toNat n f i (X i)
theorem split_i (hg : u32I g) (hs : u32I s) (hv : Byt w v n f) (hn : n ≤ 9223372036854775807) (hz : needF n ≠ 0) :
    Calls Try.prog 9 #[.int .u32 g, .int .u32 s, v] w fun e w' => (∃ v', e = .returned (.tuple #[v', .int .i64 0]) ∧ Parts w' g s n f v') ∧ Below w.heap.size w w' := by
  obtain ⟨g, rfl⟩ : ∃ k : Nat, g = k := ⟨g.toNat, by unfold u32I at hg; omega⟩
  obtain ⟨s, rfl⟩ : ∃ k : Nat, s = k := ⟨s.toNat, by unfold u32I at hs; omega⟩
  refine (split_by (by unfold u32I at hg; omega) (by unfold u32I at hs; omega) hv hn).mono ?_
  rintro e w' ⟨⟨h0, _⟩ | ⟨_, ad, c, X, he, hc, hX, hP⟩, hb⟩
  · exact absurd h0 hz
  · exact ⟨⟨_, he, ad, c, X, rfl, hc, hX, hP⟩, hb⟩
end
theorem Parts.below {w w' : World} {g s : Int} {n : Nat} {f : Nat → Nat} {v : Value} (h : Parts w g s n f v) (hb : Below w.heap.size w w') : Parts w' g s n f v := by
  obtain ⟨ad, c, X, h1, h2, h3, h4⟩ := h
  exact ⟨ad, c, X, h1, h2, h3.keep hb, h4⟩
/-- What is split is joined. -/
theorem parts_join {g s n : Nat} {f : Nat → Nat} {X : Nat → CellD} (hz : needF n ≠ 0) (hP : ∀ i, i < needF n → PartOf g s n f i (X i)) : joinP (needF n) X ∧ joinN (needF n) X (needF n) = n ∧ ∀ j, j < n → joinF X j = f j := by
  have h0 := hP 0 (by omega)
  have hn : 0 < n ∧ n ≤ 392 ∧ needF n = (n + 48) / 49 := by
    unfold needF at hz ⊢
    split at hz
    · omega
    · rename_i h; rw [if_neg h]; omega
  refine ⟨⟨by omega, fun i hi => ?_⟩, ?_, fun j hj => ?_⟩
  · have h := hP i hi
    refine ⟨part_may h hi, h.2.2.1, h.2.2.2.1, ?_, ?_⟩
    · rw [h.1, h0.1]
    · rw [h.2.1, h0.2.1]
  · unfold joinN
    rw [if_neg (by omega)]
    have h := hP (needF n - 1) (by omega)
    rw [h.2.2.2.2.1]
    omega
  · have hi : j / 49 < needF n := by omega
    have h := hP (j / 49) hi
    unfold joinF
    rw [h.2.2.2.2.2 (j % 49) (by rw [h.2.2.2.2.1]; omega)]
    congr 1
    omega
theorem join_i {w : World} {g s : Int} {n : Nat} {f : Nat → Nat} {v : Value} (h : Parts w g s n f v) (hz : needF n ≠ 0) :
    Calls Try.prog 11 #[v] w fun e w' => (∃ v', e = .returned (.tuple #[v', .int .i64 0]) ∧ Byt w' v' n f) ∧ Below w.heap.size w w' := by
  obtain ⟨ad, c, X, rfl, h2, h3, h4⟩ := h
  obtain ⟨j1, j2, j3⟩ := parts_join hz h4
  refine (join_by h3 (by have := need_few n; omega)).mono ?_
  rintro e w' ⟨⟨_, v', he, hv⟩ | ⟨hno, _⟩, hb⟩
  · rw [j2] at hv
    exact ⟨⟨v', he, hv.cast rfl j3⟩, hb⟩
  · exact absurd j1 hno
end Go.Proofs.Ytmedmeabjlmggaa
