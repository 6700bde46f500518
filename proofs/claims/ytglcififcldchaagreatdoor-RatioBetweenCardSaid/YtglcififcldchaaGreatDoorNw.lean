/- Writing and reading in the words of numbers: Bytes, Read, Text, Parse, of both sides. -/
import Derived.Test.YtglcififcldchaaGreatDoorRp
import Derived.Test.YtglcififcldchaaGreatDoorNatF
import Derived.Test.YtglcififcldchaaGreatDoorNatE
namespace Go.Proofs.YtglcififcldchaaGreatDoor
open Go.RowKit

/-- n bytes, f. -/
def Byt (w : World) (v : Value) (n : Nat) (f : Nat → Nat) : Prop := ∃ A c, v = .slice A n c ∧ n ≤ c ∧ Rd .u8 w A n f ∧ ∀ j, j < n → f j < 256
theorem Byt.below {w w' : World} {v : Value} {n : Nat} {f : Nat → Nat} (h : Byt w v n f) (hb : Below w.heap.size w w') : Byt w' v n f := by
  obtain ⟨A, c, h1, h2, h3, h4⟩ := h
  exact ⟨A, c, h1, h2, h3.below hb, h4⟩
theorem Byt.len {w : World} {A : Option Addr} {m c n : Nat} {f : Nat → Nat} (h : Byt w (.slice A m c) n f) : m = n := by
  obtain ⟨A', c', h1, _⟩ := h
  injection h1
theorem Byt.form {w : World} {v : Value} {n : Nat} {f : Nat → Nat} (h : Byt w v n f) : ∃ A c, v = .slice A n c ∧ Byt w (.slice A n c) n f := by
  obtain ⟨A, c, rfl, r⟩ := h
  exact ⟨A, c, rfl, A, c, rfl, r⟩
theorem byt_rows {w : World} {v1 v2 : Value} {n : Nat} {f g : Nat → Nat} (h1 : Byt w v1 n f) (h2 : Byt w v2 n g) (hn : n ≤ 1000000) (he : ∀ j, j < n → f j = g j) :
    Calls Tryz.prog 46 #[v1, v2] w fun e w' => e = .returned (.bool true) ∧ Below w.heap.size w w' := by
  obtain ⟨A, c, rfl, _, a1, _⟩ := h1
  obtain ⟨B, d, rfl, _, b1, _⟩ := h2
  exact rows_true A n c f B d g w a1 b1 (by omega) he

/-- The bytes of a number of p limbs. -/
def IsBytes (w : World) (v : Value) (N p : Nat) : Prop :=
  ∃ f, Byt w v (2 + 4 * p) (byteOf p f) ∧ Trimmed f p ∧ (∀ j, j < p → f j < 4294967296) ∧ num 4294967296 f p = N ∧ p ≤ 4096
theorem IsBytes.below {w w' : World} {v : Value} {N p : Nat} (h : IsBytes w v N p) (hb : Below w.heap.size w w') : IsBytes w' v N p := by
  obtain ⟨f, h1, h2⟩ := h
  exact ⟨f, h1.below hb, h2⟩
theorem byteOf_lt {p : Nat} {f : Nat → Nat} (j : Nat) : byteOf p f j < 256 := by
  unfold byteOf
  split <;> exact Nat.mod_lt _ (by omega)
theorem bytes_rows {w : World} {v1 v2 : Value} {N p q : Nat} (h1 : IsBytes w v1 N p) (h2 : IsBytes w v2 N q) :
    Calls Tryz.prog 46 #[v1, v2] w fun e w' => e = .returned (.bool true) ∧ Below w.heap.size w w' := by
  obtain ⟨f, a1, a2, a3, a4, a5⟩ := h1
  obtain ⟨g, b1, b2, b3, b4, b5⟩ := h2
  obtain ⟨rfl, he⟩ := a2.uniq b2 (B := 4294967296) (by omega) a3 b3 (by rw [a4, b4])
  refine byt_rows a1 b1 (by omega) fun j hj => ?_
  unfold byteOf
  split
  · rfl
  · rw [he _ (by omega)]
theorem lim_wbytes {k N : Nat} {w : World} {v : Value} (h : Lim k w v N) (hk : k ≤ 4096) :
    Calls Tryz.prog 118 #[v] w fun e w' => ∃ v' p, e = .returned v' ∧ IsBytes w' v' N p ∧ Below w.heap.size w w' := by
  obtain ⟨A, n, c, f, rfl, a1, a2, a3, a4, rfl⟩ := h
  have hl := tlen_le (f := f) n
  refine (bytes_any A n c f w a2 a1 (by omega) a3 (by omega)).mono ?_
  rintro e w' ⟨F, rfl, h1, h2, h3⟩
  exact ⟨_, tlen f n, rfl, ⟨f, ⟨_, _, rfl, Nat.le_refl _, (h1.rd0 (Nat.le_refl _)).congr h3, fun j _ => byteOf_lt j⟩, tlen_trimmed n, tlen_lt_dig a3, num_tlen n, by omega⟩, h2⟩
theorem lim_wrbytes {k N : Nat} {w : World} {v : Value} (h : Lim k w v N) (hk : k ≤ 4096) :
    Calls Tryz.prog 121 #[v] w fun e w' => ∃ v' p, e = .returned v' ∧ IsBytes w' v' N p ∧ Below w.heap.size w w' := by
  have hN := h.lt
  refine (rbytes_any v N w h hk).mono ?_
  rintro e w' ⟨w1, p, f, h1, h2, h3, h4, v', rfl, h5, h6⟩
  have hp : p ≤ k := h1.len (B := 4294967296) (by omega) (by rw [h3]; exact hN)
  refine ⟨v', p, rfl, ⟨f, ?_, h1, h2, h3, by omega⟩, below_trans h4 h6⟩
  rcases h5.form with ⟨_, h0⟩ | ⟨g, c, rfl, _, hc⟩
  · omega
  · exact ⟨_, c, rfl, hc, h5.rd_, fun j _ => byteOf_lt j⟩

section
variable {p n : Nat} {f g : Nat → Nat}
theorem num4 (x : Nat) (hx : x < 4294967296) (h : Nat → Nat) (hh : ∀ j, j < 4 → h j = x / 256 ^ j % 256) : num 256 h 4 = x := by
  simp only [num]
  rw [hh 0 (by omega), hh 1 (by omega), hh 2 (by omega), hh 3 (by omega)]
  simp only [Nat.reducePow]
  omega
theorem readable_of (hp : p ≤ 4096) (ht : Trimmed f p) (hf : ∀ j, j < p → f j < 4294967296) (hn : 2 + 4 * p ≤ n) (hg : ∀ j, j < 2 + 4 * p → g j = byteOf p f j) :
    Readable g n ∧ cntOf g = p ∧ num 4294967296 (limbAt g) p = num 4294967296 f p := by
  have hc : cntOf g = p := by
    unfold cntOf
    rw [hg 0 (by omega), hg 1 (by omega)]
    unfold byteOf
    rw [if_pos (by omega), if_pos (by omega)]
    simp only [Nat.reducePow, Nat.div_one]
    omega
  have hl : ∀ i, i < p → limbAt g i = f i := fun i hi => num4 (f i) (hf i hi) _ fun j hj => by
    show g (2 + 4 * i + j) = _
    rw [hg _ (by omega), byteOf_limb hj]
  refine ⟨⟨by omega, by omega, by omega, fun h0 => ?_⟩, hc, num_congr p hl⟩
  rw [hc] at h0 ⊢
  rw [hl _ (by omega)]
  rcases ht with h | h
  · omega
  · exact h
end

/-- What Read tells of n bytes f. -/
noncomputable def readB (f : Nat → Nat) (n : Nat) : Bool := by classical exact decide (Readable f n)
noncomputable def readN (f : Nat → Nat) (n : Nat) : Nat := by classical exact if Readable f n then num 4294967296 (limbAt f) (cntOf f) else 0
noncomputable def readM (f : Nat → Nat) (n : Nat) : Nat := by classical exact if Readable f n then n - (2 + 4 * cntOf f) else 0
def readG (f : Nat → Nat) (j : Nat) : Nat := f (2 + 4 * cntOf f + j)
theorem read_yes {f : Nat → Nat} {n : Nat} (h : Readable f n) : readB f n = true ∧ readN f n = num 4294967296 (limbAt f) (cntOf f) ∧ readM f n = n - (2 + 4 * cntOf f) := by
  unfold readB readN readM
  exact ⟨by simpa using h, if_pos h, if_pos h⟩
theorem read_none {f : Nat → Nat} {n : Nat} (h : ¬ Readable f n) : readB f n = false ∧ readN f n = 0 ∧ readM f n = 0 := by
  unfold readB readN readM
  exact ⟨by simpa using h, if_neg h, if_neg h⟩
theorem readM_le (f : Nat → Nat) (n : Nat) : readM f n ≤ n := by
  by_cases h : Readable f n
  · rw [(read_yes h).2.2]; omega
  · rw [(read_none h).2.2]; omega
def ReadRes (w w' : World) (e : Ending) (b : Bool) (N m : Nat) (g : Nat → Nat) : Prop :=
  ∃ va vb, e = .returned (.tuple #[va, vb, .bool b]) ∧ IsNat w' va N ∧ Byt w' vb m g ∧ Below w.heap.size w w'
theorem ReadYes.res {w w' : World} {e : Ending} {f : Nat → Nat} {n : Nat} (hf : ∀ j, j < n → f j < 256) (hr : Readable f n) (h : ReadYes w w' e f n) : ReadRes w w' e (readB f n) (readN f n) (readM f n) (readG f) := by
  obtain ⟨va, B, d, rfl, h1, h2, h3, h4⟩ := h
  obtain ⟨r1, r2, r3⟩ := read_yes hr
  rw [r1, r2, r3]
  exact ⟨va, _, rfl, h1, ⟨B, d, rfl, h2, h3, fun j hj => hf _ (by omega)⟩, h4⟩
theorem ReadNo.res {w w' : World} {e : Ending} {f : Nat → Nat} {n : Nat} (hr : ¬ Readable f n) (h : ReadNo w w' e) : ReadRes w w' e (readB f n) (readN f n) (readM f n) (readG f) := by
  obtain ⟨rfl, h4⟩ := h
  obtain ⟨r1, r2, r3⟩ := read_none hr
  rw [r1, r2, r3]
  exact ⟨_, _, rfl, isNat_nil _, ⟨none, 0, rfl, Nat.le_refl _, Rd.zero, fun j hj => absurd hj (by omega)⟩, h4⟩
theorem byt_read {w : World} {v : Value} {n : Nat} {f : Nat → Nat} (h : Byt w v n f) (hn : n ≤ 1000000) :
    Calls Tryz.prog 116 #[v] w fun e w' => ReadRes w w' e (readB f n) (readN f n) (readM f n) (readG f) := by
  obtain ⟨A, c, rfl, h1, h2, h3⟩ := h
  by_cases hs : n < 2
  · exact (read_short A n c w hs).mono fun e w' h => h.res (fun hr => by have := hr.1; omega)
  · obtain ⟨ad, rfl, _⟩ := h2.some_ (by omega)
    refine (read_long ad n c f w h2 h1 hn h3 (by omega)).mono fun e w' h => ?_
    by_cases hr : Readable f n
    · exact (h.1 hr).res h3 hr
    · exact (h.2 hr).res hr
theorem byt_rread {w : World} {v : Value} {n : Nat} {f : Nat → Nat} (h : Byt w v n f) (hn : n ≤ 1000000) :
    Calls Tryz.prog 117 #[v] w fun e w' => ReadRes w w' e (readB f n) (readN f n) (readM f n) (readG f) := by
  obtain ⟨A, c, rfl, h1, h2, h3⟩ := h
  by_cases hs : n < 2
  · exact (rread_short A n c w hs).mono fun e w' h => h.res (fun hr => by have := hr.1; omega)
  · obtain ⟨ad, rfl, _⟩ := h2.some_ (by omega)
    refine (rread_long ad n c f w h2 h1 hn h3 (by omega)).mono fun e w' h => ?_
    by_cases hr : Readable f n
    · exact (h.1 hr).res h3 hr
    · exact (h.2 hr).res hr
theorem readN_lt {f : Nat → Nat} {n : Nat} (hf : ∀ j, j < n → f j < 256) : readN f n < 4294967296 ^ n := by
  by_cases h : Readable f n
  · rw [(read_yes h).2.1]
    have h3 := h.2.2.1
    exact Nat.lt_of_lt_of_le (num_lt (by omega) _ fun j hj => limbAt_lt (n := n) hf (by omega)) (Nat.pow_le_pow_right (by omega) (by omega))
  · rw [(read_none h).2.1]
    exact Nat.pow_pos (by omega)
/-- What Bytes wrote, with whatever behind it, is read. -/
theorem read_written {w : World} {v : Value} {N p n : Nat} {g : Nat → Nat} (h : IsBytes w v N p) (hn : 2 + 4 * p ≤ n) (hg : ∀ f, Byt w v (2 + 4 * p) (byteOf p f) → ∀ j, j < 2 + 4 * p → g j = byteOf p f j) :
    readB g n = true ∧ readN g n = N ∧ readM g n = n - (2 + 4 * p) ∧ cntOf g = p := by
  obtain ⟨f, a1, a2, a3, a4, a5⟩ := h
  obtain ⟨h1, h2, h3⟩ := readable_of a5 a2 a3 hn (hg f a1)
  obtain ⟨r1, r2, r3⟩ := read_yes h1
  refine ⟨r1, ?_, by rw [r3, h2], h2⟩
  rw [r2, h2, h3, a4]
theorem bytes_read {w : World} {v : Value} {N p : Nat} (h : IsBytes w v N p) :
    Calls Tryz.prog 116 #[v] w fun e w' => ReadRes w w' e true N 0 (fun _ => 0) := by
  obtain ⟨f, a1, a2, a3, a4, a5⟩ := h
  obtain ⟨h1, h2, h3⟩ := readable_of (n := 2 + 4 * p) (g := byteOf p f) a5 a2 a3 (by omega) (fun _ _ => rfl)
  obtain ⟨r1, r2, r3⟩ := read_yes h1
  have := byt_read a1 (by omega)
  rw [r1, r2, r3, h2, h3, a4, Nat.sub_self] at this
  refine this.mono ?_
  rintro e w' ⟨va, vb, rfl, x1, ⟨A, c, rfl, x2, x3, x4⟩, x5⟩
  exact ⟨va, _, rfl, x1, ⟨A, c, rfl, x2, Rd.zero, fun j hj => absurd hj (by omega)⟩, x5⟩

/-- What Parse tells of a text. -/
noncomputable def isNumB (s : ByteArray) : Bool := by classical exact decide (IsNum s)
noncomputable def numV (s : ByteArray) : Nat := by classical exact if IsNum s then dval (bt s) s.size else 0
theorem num_yes {s : ByteArray} (h : IsNum s) : isNumB s = true ∧ numV s = dval (bt s) s.size := by
  unfold isNumB numV
  exact ⟨by simpa using h, if_pos h⟩
theorem num_no {s : ByteArray} (h : ¬ IsNum s) : isNumB s = false ∧ numV s = 0 := by
  unfold isNumB numV
  exact ⟨by simpa using h, if_neg h⟩
theorem numV_lt (s : ByteArray) : numV s < 4294967296 ^ s.size := by
  by_cases h : IsNum s
  · rw [(num_yes h).2]
    exact Nat.lt_of_lt_of_le (dval_lt s.size fun i hi => (h.2.2.2 i hi).2) (Nat.pow_le_pow_left (by omega) _)
  · rw [(num_no h).2]
    exact Nat.pow_pos (by omega)
theorem str_parse (s : ByteArray) (w : World) (hm : s.size ≤ 4611686018427387904) : Calls Tryz.prog 137 #[.string s] w fun e w' => ParsePost w w' e (isNumB s) (numV s) := by
  by_cases h : IsNum s
  · rw [(num_yes h).1, (num_yes h).2]; exact parse_yes s w h
  · rw [(num_no h).1, (num_no h).2]; exact parse_no s w hm h
theorem str_rparse (s : ByteArray) (w : World) (hm : s.size ≤ 4611686018427387904) : Calls Tryz.prog 80 #[.string s] w fun e w' => ParsePost w w' e (isNumB s) (numV s) := by
  by_cases h : IsNum s
  · rw [(num_yes h).1, (num_yes h).2]; exact rparse_yes s w h
  · rw [(num_no h).1, (num_no h).2]; exact rparse_no s w hm h
/-- A number's text is read as it. -/
theorem decS_read {N q : Nat} (hN : N < 10 ^ q) (hq : q ≤ 40000) : IsNum (decS N) ∧ dval (bt (decS N)) (decS N).size = N := by
  rcases Nat.eq_zero_or_pos N with rfl | h0
  · rw [decS_zero]
    refine ⟨⟨by decide, by decide, by decide, ?_⟩, by decide⟩
    intro i hi
    have : i = 0 := by have : i < 1 := hi; omega
    subst this
    decide
  · exact decS_num h0 hN hq
theorem text_parse {N k : Nat} (w : World) (hN : N < 4294967296 ^ k) (hk : k ≤ 1000) : Calls Tryz.prog 137 #[.string (decS N)] w fun e w' => ParsePost w w' e true N := by
  have h10 : N < 10 ^ (10 * k) := Nat.lt_of_lt_of_le hN (by rw [Nat.pow_mul]; exact Nat.pow_le_pow_left (by decide) _)
  obtain ⟨h1, h2⟩ := decS_read h10 (by omega)
  have := parse_yes (decS N) w h1
  rwa [h2] at this
end Go.Proofs.YtglcififcldchaaGreatDoor
