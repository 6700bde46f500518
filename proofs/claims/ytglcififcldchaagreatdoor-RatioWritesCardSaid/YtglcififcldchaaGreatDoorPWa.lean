/- Writing and reading in the words of numbers: Bytes, Read, Text, Parse, of both sides. -/
import Derived.Test.YtglcififcldchaaGreatDoorPRp
import Derived.Test.YtglcififcldchaaGreatDoorPNatF
import Derived.Test.YtglcififcldchaaGreatDoorPNatE
import Derived.Deep.RegionHeld3
namespace Go.Proofs.YtglcififcldchaaGreatDoor
open Go.RowKit

/-- n bytes, f. -/
def Byt (w : World) (v : Value) (n : Nat) (f : Nat → Nat) : Prop := ∃ A c, v = .slice A n c ∧ n ≤ c ∧ Rd .u8 w A n f ∧ ∀ j, j < n → f j < 256
theorem Byt.below {w w' : World} {v : Value} {n : Nat} {f : Nat → Nat} (h : Byt w v n f) (hb : Below w.heap.size w w') : Byt w' v n f := by
  obtain ⟨A, c, h1, h2, h3, h4⟩ := h
  exact ⟨A, c, h1, h2, h3.below hb, h4⟩
theorem Byt.form {w : World} {v : Value} {n : Nat} {f : Nat → Nat} (h : Byt w v n f) : ∃ A c, v = .slice A n c ∧ Byt w (.slice A n c) n f := by
  obtain ⟨A, c, rfl, r⟩ := h
  exact ⟨A, c, rfl, A, c, rfl, r⟩
theorem byt_rows {w : World} {v1 v2 : Value} {n : Nat} {f g : Nat → Nat} (h1 : Byt w v1 n f) (h2 : Byt w v2 n g) (hn : n ≤ 1000000) (he : ∀ j, j < n → f j = g j) :
    Calls Tryz.prog 46 #[v1, v2] w fun e w' => e = .returned (.bool true) ∧ Below w.heap.size w w' := by
  obtain ⟨A, c, rfl, _, a1, _⟩ := h1
  obtain ⟨B, d, rfl, _, b1, _⟩ := h2
  exact rows_true A n c f B d g w a1 b1 (by omega) he

/-- The bytes of a number of p limbs. -/
def IsBytes (w : World) (v : Value) (N p : Nat) : Prop :=
  ∃ f, Byt w v (2 + 4 * p) (byteOf p f) ∧ Trimmed f p ∧ (∀ j, j < p → f j < 4294967296) ∧ num 4294967296 f p = N ∧ p ≤ 4096
theorem byteOf_lt {p : Nat} {f : Nat → Nat} (j : Nat) : byteOf p f j < 256 := by
  unfold byteOf
  split <;> exact Nat.mod_lt _ (by omega)
theorem lim_wbytes {k N : Nat} {w : World} {v : Value} (h : Lim k w v N) (hk : k ≤ 4096) :
    Calls Tryz.prog 118 #[v] w fun e w' => ∃ v' p, e = .returned v' ∧ IsBytes w' v' N p ∧ Below w.heap.size w w' := by
  obtain ⟨A, n, c, f, rfl, a1, a2, a3, a4, rfl⟩ := h
  have hl := tlen_le (f := f) n
  refine (bytes_any A n c f w a2 a1 (by omega) a3 (by omega)).mono ?_
  rintro e w' ⟨F, rfl, h1, h2, h3⟩
  exact ⟨_, tlen f n, rfl, ⟨f, ⟨_, _, rfl, Nat.le_refl _, (h1.rd0 (Nat.le_refl _)).congr h3, fun j _ => byteOf_lt j⟩, tlen_trimmed n, tlen_lt_dig a3, num_tlen n, by omega⟩, h2⟩
theorem lim_wrbytes {k N : Nat} {w : World} {v : Value} (h : Lim k w v N) (hk : k ≤ 4096) :
    Calls Tryz.prog 121 #[v] w fun e w' => ∃ v' p, e = .returned v' ∧ IsBytes w' v' N p ∧ Below w.heap.size w w' := by
  have hN := h.lt
  refine (rbytes_any v N w h hk).mono ?_
  rintro e w' ⟨w1, p, f, h1, h2, h3, h4, v', rfl, h5, h6⟩
  have hp : p ≤ k := h1.len (B := 4294967296) (by omega) (by rw [h3]; exact hN)
  refine ⟨v', p, rfl, ⟨f, ?_, h1, h2, h3, by omega⟩, below_trans h4 h6⟩
  rcases h5.form with ⟨_, h0⟩ | ⟨g, c, rfl, _, hc⟩
  · omega
  · exact ⟨_, c, rfl, hc, h5.rd_, fun j _ => byteOf_lt j⟩

section
variable {p n : Nat} {f g : Nat → Nat}
theorem num4 (x : Nat) (hx : x < 4294967296) (h : Nat → Nat) (hh : ∀ j, j < 4 → h j = x / 256 ^ j % 256) : num 256 h 4 = x := by
  simp only [num]
  rw [hh 0 (by omega), hh 1 (by omega), hh 2 (by omega), hh 3 (by omega)]
  simp only [Nat.reducePow]
  omega
theorem readable_of (hp : p ≤ 4096) (ht : Trimmed f p) (hf : ∀ j, j < p → f j < 4294967296) (hn : 2 + 4 * p ≤ n) (hg : ∀ j, j < 2 + 4 * p → g j = byteOf p f j) :
    Readable g n ∧ cntOf g = p ∧ num 4294967296 (limbAt g) p = num 4294967296 f p := by
  have hc : cntOf g = p := by
    unfold cntOf
    rw [hg 0 (by omega), hg 1 (by omega)]
    unfold byteOf
    rw [if_pos (by omega), if_pos (by omega)]
    simp only [Nat.reducePow, Nat.div_one]
    omega
  have hl : ∀ i, i < p → limbAt g i = f i := fun i hi => num4 (f i) (hf i hi) _ fun j hj => by
    show g (2 + 4 * i + j) = _
    rw [hg _ (by omega), byteOf_limb hj]
  refine ⟨⟨by omega, by omega, by omega, fun h0 => ?_⟩, hc, num_congr p hl⟩
  rw [hc] at h0 ⊢
  rw [hl _ (by omega)]
  rcases ht with h | h
  · omega
  · exact h
end

/-- What Read tells of n bytes f. -/
noncomputable def readB (f : Nat → Nat) (n : Nat) : Bool := by classical exact decide (Readable f n)
noncomputable def readN (f : Nat → Nat) (n : Nat) : Nat := by classical exact if Readable f n then num 4294967296 (limbAt f) (cntOf f) else 0
noncomputable def readM (f : Nat → Nat) (n : Nat) : Nat := by classical exact if Readable f n then n - (2 + 4 * cntOf f) else 0
def readG (f : Nat → Nat) (j : Nat) : Nat := f (2 + 4 * cntOf f + j)
theorem read_yes {f : Nat → Nat} {n : Nat} (h : Readable f n) : readB f n = true ∧ readN f n = num 4294967296 (limbAt f) (cntOf f) ∧ readM f n = n - (2 + 4 * cntOf f) := by
  unfold readB readN readM
  exact ⟨by simpa using h, if_pos h, if_pos h⟩
theorem read_none {f : Nat → Nat} {n : Nat} (h : ¬ Readable f n) : readB f n = false ∧ readN f n = 0 ∧ readM f n = 0 := by
  unfold readB readN readM
  exact ⟨by simpa using h, if_neg h, if_neg h⟩
theorem readM_le (f : Nat → Nat) (n : Nat) : readM f n ≤ n := by
  by_cases h : Readable f n
  · rw [(read_yes h).2.2]; omega
  · rw [(read_none h).2.2]; omega
def ReadRes (w w' : World) (e : Ending) (b : Bool) (N m : Nat) (g : Nat → Nat) : Prop :=
  ∃ va vb, e = .returned (.tuple #[va, vb, .bool b]) ∧ IsNat w' va N ∧ Byt w' vb m g ∧ Below w.heap.size w w'
theorem ReadYes.res {w w' : World} {e : Ending} {f : Nat → Nat} {n : Nat} (hf : ∀ j, j < n → f j < 256) (hr : Readable f n) (h : ReadYes w w' e f n) : ReadRes w w' e (readB f n) (readN f n) (readM f n) (readG f) := by
  obtain ⟨va, B, d, rfl, h1, h2, h3, h4⟩ := h
  obtain ⟨r1, r2, r3⟩ := read_yes hr
  rw [r1, r2, r3]
  exact ⟨va, _, rfl, h1, ⟨B, d, rfl, h2, h3, fun j hj => hf _ (by omega)⟩, h4⟩
theorem ReadNo.res {w w' : World} {e : Ending} {f : Nat → Nat} {n : Nat} (hr : ¬ Readable f n) (h : ReadNo w w' e) : ReadRes w w' e (readB f n) (readN f n) (readM f n) (readG f) := by
  obtain ⟨rfl, h4⟩ := h
  obtain ⟨r1, r2, r3⟩ := read_none hr
  rw [r1, r2, r3]
  exact ⟨_, _, rfl, isNat_nil _, ⟨none, 0, rfl, Nat.le_refl _, Rd.zero, fun j hj => absurd hj (by omega)⟩, h4⟩
theorem byt_read {w : World} {v : Value} {n : Nat} {f : Nat → Nat} (h : Byt w v n f) (hn : n ≤ 1000000) :
    Calls Tryz.prog 116 #[v] w fun e w' => ReadRes w w' e (readB f n) (readN f n) (readM f n) (readG f) := by
  obtain ⟨A, c, rfl, h1, h2, h3⟩ := h
  by_cases hs : n < 2
  · exact (read_short A n c w hs).mono fun e w' h => h.res (fun hr => by have := hr.1; omega)
  · obtain ⟨ad, rfl, _⟩ := h2.some_ (by omega)
    refine (read_long ad n c f w h2 h1 hn h3 (by omega)).mono fun e w' h => ?_
    by_cases hr : Readable f n
    · exact (h.1 hr).res h3 hr
    · exact (h.2 hr).res hr
theorem byt_rread {w : World} {v : Value} {n : Nat} {f : Nat → Nat} (h : Byt w v n f) (hn : n ≤ 1000000) :
    Calls Tryz.prog 117 #[v] w fun e w' => ReadRes w w' e (readB f n) (readN f n) (readM f n) (readG f) := by
  obtain ⟨A, c, rfl, h1, h2, h3⟩ := h
  by_cases hs : n < 2
  · exact (rread_short A n c w hs).mono fun e w' h => h.res (fun hr => by have := hr.1; omega)
  · obtain ⟨ad, rfl, _⟩ := h2.some_ (by omega)
    refine (rread_long ad n c f w h2 h1 hn h3 (by omega)).mono fun e w' h => ?_
    by_cases hr : Readable f n
    · exact (h.1 hr).res h3 hr
    · exact (h.2 hr).res hr
theorem readN_lt {f : Nat → Nat} {n : Nat} (hf : ∀ j, j < n → f j < 256) : readN f n < 4294967296 ^ n := by
  by_cases h : Readable f n
  · rw [(read_yes h).2.1]
    have h3 := h.2.2.1
    exact Nat.lt_of_lt_of_le (num_lt (by omega) _ fun j hj => limbAt_lt (n := n) hf (by omega)) (Nat.pow_le_pow_right (by omega) (by omega))
  · rw [(read_none h).2.1]
    exact Nat.pow_pos (by omega)
/-- What Parse tells of a text. -/
noncomputable def isNumB (s : ByteArray) : Bool := by classical exact decide (IsNum s)
noncomputable def numV (s : ByteArray) : Nat := by classical exact if IsNum s then dval (bt s) s.size else 0
theorem num_yes {s : ByteArray} (h : IsNum s) : isNumB s = true ∧ numV s = dval (bt s) s.size := by
  unfold isNumB numV
  exact ⟨by simpa using h, if_pos h⟩
theorem num_no {s : ByteArray} (h : ¬ IsNum s) : isNumB s = false ∧ numV s = 0 := by
  unfold isNumB numV
  exact ⟨by simpa using h, if_neg h⟩
theorem numV_lt (s : ByteArray) : numV s < 4294967296 ^ s.size := by
  by_cases h : IsNum s
  · rw [(num_yes h).2]
    exact Nat.lt_of_lt_of_le (dval_lt s.size fun i hi => (h.2.2.2 i hi).2) (Nat.pow_le_pow_left (by omega) _)
  · rw [(num_no h).2]
    exact Nat.pow_pos (by omega)
theorem str_parse (s : ByteArray) (w : World) (hm : s.size ≤ 4611686018427387904) : Calls Tryz.prog 137 #[.string s] w fun e w' => ParsePost w w' e (isNumB s) (numV s) := by
  by_cases h : IsNum s
  · rw [(num_yes h).1, (num_yes h).2]; exact parse_yes s w h
  · rw [(num_no h).1, (num_no h).2]; exact parse_no s w hm h
theorem str_rparse (s : ByteArray) (w : World) (hm : s.size ≤ 4611686018427387904) : Calls Tryz.prog 80 #[.string s] w fun e w' => ParsePost w w' e (isNumB s) (numV s) := by
  by_cases h : IsNum s
  · rw [(num_yes h).1, (num_yes h).2]; exact rparse_yes s w h
  · rw [(num_no h).1, (num_no h).2]; exact rparse_no s w hm h
/-- A number's text is read as it. -/
theorem decS_read {N q : Nat} (hN : N < 10 ^ q) (hq : q ≤ 40000) : IsNum (decS N) ∧ dval (bt (decS N)) (decS N).size = N := by
  rcases Nat.eq_zero_or_pos N with rfl | h0
  · rw [decS_zero]
    refine ⟨⟨by decide, by decide, by decide, ?_⟩, by decide⟩
    intro i hi
    have : i = 0 := by have : i < 1 := hi; omega
    subst this
    decide
  · exact decS_num h0 hN hq
end Go.Proofs.YtglcififcldchaaGreatDoor

/- Whole numbers as values; contracts: signed, isBelow. -/
namespace Go.Proofs.YtglcififcldchaaGreatDoor
open Go.RowKit

/-- The whole number of a sign and a size. -/
def sg (b : Bool) (N : Nat) : Int := if b then -(N : Int) else (N : Int)
theorem sg_abs (b : Bool) (N : Nat) : (sg b N).natAbs = N := by unfold sg; cases b <;> simp
theorem sg_neg (b : Bool) (N : Nat) : decide (sg b N < 0) = (b && decide (0 < N)) := by
  unfold sg
  cases b
  · simp
  · by_cases h : 0 < N <;> simp [h]
/-- A whole number of at most k limbs, plain or not. -/
def LimI (k : Nat) (w : World) (v : Value) (Z : Int) : Prop := ∃ b m N, v = .agg #[.bool b, m] ∧ Lim k w m N ∧ Z = sg b N
/-- A plain whole number. -/
def IsInt (w : World) (v : Value) (Z : Int) : Prop := ∃ m, v = .agg #[.bool (decide (Z < 0)), m] ∧ IsNat w m Z.natAbs
theorem LimI.below {k : Nat} {w w' : World} {v : Value} {Z : Int} (h : LimI k w v Z) (hb : Below w.heap.size w w') : LimI k w' v Z := by
  obtain ⟨b, m, N, h1, h2, h3⟩ := h
  exact ⟨b, m, N, h1, h2.below hb, h3⟩
theorem IsInt.below {w w' : World} {v : Value} {Z : Int} (h : IsInt w v Z) (hb : Below w.heap.size w w') : IsInt w' v Z := by
  obtain ⟨m, h1, h2⟩ := h
  exact ⟨m, h1, h2.below hb⟩
theorem LimI.lt {k : Nat} {w : World} {v : Value} {Z : Int} (h : LimI k w v Z) : Z.natAbs < 4294967296 ^ k := by
  obtain ⟨b, m, N, h1, h2, rfl⟩ := h
  rw [sg_abs]
  exact h2.lt
theorem sg_of (Z : Int) : sg (decide (Z < 0)) Z.natAbs = Z := by
  unfold sg
  by_cases h : Z < 0
  · rw [decide_eq_true h, if_pos rfl]; omega
  · rw [decide_eq_false h]; simp; omega
theorem IsInt.lim {k : Nat} {w : World} {v : Value} {Z : Int} (h : IsInt w v Z) (hZ : Z.natAbs < 4294967296 ^ k) : LimI k w v Z := by
  obtain ⟨m, h1, h2⟩ := h
  exact ⟨_, m, _, h1, h2.lim hZ, (sg_of Z).symm⟩
def IntPost (w w' : World) (e : Ending) (Z : Int) : Prop := ∃ v, e = .returned v ∧ IsInt w' v Z ∧ Below w.heap.size w w'
theorem isInt_sg {w : World} {m : Value} {b : Bool} {N : Nat} (h : IsNat w m N) : IsInt w (.agg #[.bool (b && decide (0 < N)), m]) (sg b N) :=
  ⟨m, by rw [sg_neg], by rw [sg_abs]; exact h⟩
theorem isNat_form {w : World} {v : Value} {N : Nat} (h : IsNat w v N) : ∃ A n c, v = .slice A n c ∧ (0 < n ↔ 0 < N) ∧ IsNat w (.slice A n c) N := by
  obtain ⟨A, n, c, f, rfl, a1, a2, a3, a4, a5⟩ := h
  refine ⟨A, n, c, rfl, ⟨fun h0 => ?_, fun h0 => ?_⟩, A, n, c, f, rfl, a1, a2, a3, a4, a5⟩
  · have := a4.pos (B := 4294967296) (by omega) h0; omega
  · rcases Nat.eq_zero_or_pos n with h | h
    · subst h; rw [← a5] at h0; simp [num] at h0
    · exact h
set_option maxHeartbeats 1000000 in
theorem signed_any (b : Bool) (A : Option Addr) (n c N : Nat) (w : World) (h : IsNat w (.slice A n c) N) (hn : 0 < n ↔ 0 < N) :
    Calls Tryz.prog 100 #[.bool b, .slice A n c] w fun e w' => IntPost w w' e (sg b N) := by
  have H := Lib.hid h
  have HS : Hid (decide (0 < n) = decide (0 < N)) := by
    show _ = _
    by_cases x : 0 < n
    · rw [decide_eq_true x, decide_eq_true (hn.1 x)]
    · rw [decide_eq_false x, decide_eq_false (by rw [← hn]; exact x)]
  clear h hn
  cases b
  · go_enter Tryz.func100, Tryz.ntmps100
    go_wp2
    exact bodyPost_ret (v := .agg #[.bool false, .slice A n c]) (by simp [results, Tryz.results100, go_sem]) rfl ⟨_, rfl, isInt_sg (b := false) (H.out.below (below_new _ _)), below_new _ _⟩
  · go_enter Tryz.func100, Tryz.ntmps100
    go_wp2
    refine bodyPost_ret (v := .agg #[.bool (decide (0 < n)), .slice A n c]) (by simp [results, Tryz.results100, go_sem]) rfl ⟨_, rfl, ?_, below_new _ _⟩
    have e : decide (0 < n) = (true && decide (0 < N)) := by rw [Bool.true_and, HS.out]
    rw [e]
    exact isInt_sg (b := true) (H.out.below (below_new _ _))
theorem Lim.alloc_ {k : Nat} {w : World} {v : Value} {N : Nat} (h : Lim k w v N) (o : Obj) : Lim k (w.alloc o) v N := h.below (below_new w o)
theorem Lim.drew_ {k : Nat} {w : World} {v : Value} {N : Nat} (h : Lim k w v N) : Lim k w.drew v N := h
theorem lim_nil (w : World) : Lim 0 w (.slice none 0 0) 0 := ⟨none, 0, 0, fun _ => 0, rfl, Nat.le_refl _, Rd.zero, fun j hj => absurd hj (by omega), Nat.le_refl _, rfl⟩
theorem cmpN_zero (N : Nat) : decide (0 < cmpN N 0) = decide (0 < N) := by
  unfold cmpN
  by_cases h : 0 < N
  · rw [if_neg (by omega), if_neg (by omega), decide_eq_true h]; rfl
  · rw [if_neg (by omega), if_pos (by omega), decide_eq_false h]; rfl
set_option maxHeartbeats 1000000 in
theorem isBelow_any (b : Bool) (A : Option Addr) (n c N k : Nat) (w : World) (h : Lim k w (.slice A n c) N) (hk : k ≤ 1000000) :
    Calls Tryz.prog 91 #[.agg #[.bool b, .slice A n c]] w fun e w' => e = .returned (.bool (decide (sg b N < 0))) ∧ Below w.heap.size w w' := by
  have HSG := Lib.hid (sg_neg b N)
  generalize decide (sg b N < 0) = r at *
  cases b
  · have hr : r = false := by rw [HSG.out]; rfl
    subst hr
    go_enter Tryz.func91, Tryz.ntmps91
    go_wp2
    go_ret
    exact ⟨rfl, below_new _ _⟩
  · have hr : r = decide (0 < N) := by rw [HSG.out]; rfl
    subst hr
    have CM := Lib.hid (lim_cmp (h.alloc_ (.cells #[.bool true, .slice A n c] 24)) (lim_nil _) hk (by omega))
    have HC := Lib.hid (cmpN_zero N)
    clear h HSG
    go_enter Tryz.func91, Tryz.ntmps91
    go_wp2_with fail
    refine CM.out.mono ?_
    rintro e w1 ⟨rfl, hb⟩
    have HB := Lib.hid ((below_new w _).trans (hb.mono (by simp)))
    clear hb CM
    go_wp2
    go_ret
    exact ⟨by rw [← HC.out]; rfl, HB.out⟩
theorem bcell {W w1 : World} (hb : Below W.heap.size W w1) : (∀ b o, b < W.heap.size → w1.cell? ⟨b, o, none⟩ = W.cell? ⟨b, o, none⟩) ∧ (∀ b o, b < W.heap.size → w1.frozen? ⟨b, o, none⟩ = W.frozen? ⟨b, o, none⟩) :=
  ⟨fun b o h => hb.cell (p := ⟨b, o, none⟩) h, fun b o h => hb.frozen (p := ⟨b, o, none⟩) h⟩
/-- The second cell of a block of two, while the first is stored. -/
theorem second_cell {w : World} {g : Nat} {x : Value} (h : w.cell? ⟨g, 1, none⟩ = some x) (v : Value) : (w.setCell ⟨g, 0, none⟩ v).cell? ⟨g, 1, none⟩ = some x := by
  rw [World.cell?_setCell_other (w := w) (v := v) (a := ⟨g, 0, none⟩) (b := ⟨g, 1, none⟩) (by simp)]
  exact h
theorem Rd.apart {K : IntKind} {w : World} {A : Option Addr} {n : Nat} {f : Nat → Nat} {p : Addr} {x : Value} (h : Rd K w A n f) (hp : w.cell? p = some x) (hx : ∀ z, x ≠ .int K z) (y : Value) : Rd K (w.setCell p y) A n f := fun j hj => by
  obtain ⟨ad, e, hc⟩ := h j hj
  refine ⟨ad, e, ?_⟩
  rw [World.cell?_setCell_other (w := w) (v := y) (a := p) (b := ad.add j) (fun he => by rw [← he, hp] at hc; injection hc with hc; exact hx _ hc)]
  exact hc
theorem IsNat.apart {w : World} {v : Value} {N : Nat} {p : Addr} {x : Value} (h : IsNat w v N) (hp : w.cell? p = some x) (hx : ∀ z, x ≠ .int .u32 z) (y : Value) : IsNat (w.setCell p y) v N := by
  obtain ⟨A, n, c, f, h1, h2, h3, h4⟩ := h
  exact ⟨A, n, c, f, h1, h2, h3.apart hp hx y, h4⟩
/-- A number stored into a block of two cells that holds another one. -/
theorem IsNat.stored {w : World} {v : Value} {N : Nat} {g : Nat} {b0 : Bool} {A0 : Option Addr} {n0 c0 : Nat} (h : IsNat w v N) (h0 : w.cell? ⟨g, 0, none⟩ = some (.bool b0)) (h1 : w.cell? ⟨g, 1, none⟩ = some (.slice A0 n0 c0)) (x y : Value) :
    IsNat ((w.setCell ⟨g, 0, none⟩ x).setCell ⟨g, 1, none⟩ y) v N :=
  (h.apart h0 (fun z e => by cases e) x).apart (second_cell h1 x) (fun z e => by cases e) y
theorem first_cell {w : World} {g : Nat} {x : Value} (h : w.cell? ⟨g, 0, none⟩ = some x) (v : Value) : (w.setCell ⟨g, 0, none⟩ v).cell? ⟨g, 0, none⟩ = some v := World.cell?_setCell_same w ⟨g, 0, none⟩ v h
/-- A result's block, just made. -/
theorem res_new (w : World) (g : Nat) (hg : g = w.heap.size) (x y : Value) : (w.alloc (.cells #[x, y] 24)).cell? ⟨g, 0, none⟩ = some x ∧ (w.alloc (.cells #[x, y] 24)).cell? ⟨g, 1, none⟩ = some y := by
  subst hg
  have h := heap_alloc_new w (.cells #[x, y] 24)
  exact ⟨by rw [cell_of_row _ _ 0 _ _ _ h]; rfl, by rw [cell_of_row _ _ 1 _ _ _ h]; rfl⟩
end Go.Proofs.YtglcififcldchaaGreatDoor
