/- Contracts: Div, where the divisor is 0, longer, or one limb long, or both are short. -/
import Derived.Test.YtonjecddhbckgaaCk
import Derived.Test.YtonjecddhbckgaaCf
namespace Go.Proofs.Ytonjecddhbckgaa
open Go.RowKit

/-- What Div leaves. -/
def DivPost (w w' : World) (e : Ending) (x y : Nat) : Prop :=
  ∃ vq vr, e = .returned (.tuple #[vq, vr, .bool (decide (0 < y))]) ∧ IsNat w' vq (x / y) ∧ IsNat w' vr (if y = 0 then 0 else x % y) ∧ Below w.heap.size w w'

theorem below_trans {w w1 w2 : World} (h : Below w.heap.size w w1) (h' : Below w1.heap.size w1 w2) : Below w.heap.size w w2 := h.trans (h'.mono h.size)

set_option maxHeartbeats 1000000 in
theorem div_zero (A : Option Addr) (n c : Nat) (f : Nat → Nat) (B : Option Addr) (m d : Nat) (h : Nat → Nat) (w : World) (ha : Rd .u32 w A n f) (hc : n ≤ c) (hn : n ≤ 8796093022208)
    (hb : Rd .u32 w B m h) (hd : m ≤ d) (hm : m ≤ 8796093022208) (h0 : tlen h m = 0) :
    Calls Try.prog 24 #[.slice A n c, .slice B m d] w fun e w' => DivPost w w' e (num 4294967296 f n) (num 4294967296 h m) := by
  have hN : num 4294967296 h m = 0 := (tlen_zero_iff (by omega)).1 h0
  rw [hN]
  have C1 := fun w' hr' => cut_any A n c f w' hr' hc (by omega)
  have C2 := fun w' hr' => cut_any B m d h w' hr' hd (by omega)
  rw [h0] at C2
  have D1 := Lib.hid C1
  have D2 := Lib.hid C2
  clear C1 C2 hN h0
  have hg1 : (((0 : Nat) : Int) == 0) = true := by decide
  go_enter Try.func24, Try.ntmps24
  go_wp2_with fail
  refine (D1.out _ ha).mono ?_
  rintro e w' ⟨rfl, rfl⟩
  go_wp2_with fail
  refine (D2.out _ hb).mono ?_
  rintro e w' ⟨rfl, rfl⟩
  go_wp2
  go_ret3
  exact ⟨_, _, rfl, by rw [Nat.div_zero]; exact isNat_nil _, isNat_nil _, Below.refl _ _⟩

set_option maxHeartbeats 1000000 in
theorem div_less (A : Option Addr) (n c : Nat) (f : Nat → Nat) (B : Option Addr) (m d : Nat) (h : Nat → Nat) (w : World) (ha : Rd .u32 w A n f) (hc : n ≤ c) (hn : n ≤ 8796093022208) (hf : ∀ j, j < n → f j < 4294967296)
    (hb : Rd .u32 w B m h) (hd : m ≤ d) (hm : m ≤ 8796093022208) (hlt : tlen f n < tlen h m) :
    Calls Try.prog 24 #[.slice A n c, .slice B m d] w fun e w' => DivPost w w' e (num 4294967296 f n) (num 4294967296 h m) := by
  have hN : num 4294967296 f n < num 4294967296 h m := by
    have := num_len_lt (B := 4294967296) (by omega) (tlen_lt_dig hf) (tlen_trimmed (f := h) m) hlt
    rwa [num_tlen, num_tlen] at this
  have HE : Hid (decide (0 < num 4294967296 h m) = true) := decide_eq_true (by omega)
  have HN := Lib.hid hN
  have C1 := fun w' hr' => cut_any A n c f w' hr' hc (by omega)
  have C2 := fun w' hr' => cut_any B m d h w' hr' hd (by omega)
  have T := fun hr' => trim_any A (tlen f n) c f w hr' (by have := tlen_le (f := f) n; omega) (by have := tlen_le (f := f) n; omega)
  have D1 := Lib.hid C1
  have D2 := Lib.hid C2
  have DT := Lib.hid T
  have ha' := ha.less (tlen_le (f := f) n)
  have hg : (tlen f n : Int) < (tlen h m : Int) := by omega
  have hg1 : ((tlen h m : Int) == 0) = false := by rw [beq_eq_false_iff_ne]; omega
  have HF := Lib.hid hf
  have ht : tlen f (tlen f n) = tlen f n := tlen_eq (Nat.le_refl _) (fun j a b => by omega) (tlen_trimmed n)
  have HT := Lib.hid ht
  clear C1 C2 T hN hf ht
  go_enter Try.func24, Try.ntmps24
  go_wp2_with fail
  refine (D1.out _ ha).mono ?_
  rintro e w' ⟨rfl, rfl⟩
  go_wp2_with fail
  refine (D2.out _ hb).mono ?_
  rintro e w' ⟨rfl, rfl⟩
  go_wp2_with fail
  refine (DT.out ha').mono ?_
  rintro e w1 ⟨rfl, f2, hrow, hf2, hbl, hs⟩
  have HF2 := Lib.hid hf2
  clear hf2
  go_wp2
  go_ret3
  have hN := HN.out
  refine ⟨.slice none 0 0, .slice (some ⟨w.heap.size, 0, none⟩) (tlen f (tlen f n)) (tlen f (tlen f n)), by rw [HE.out]; rfl, ?_, ?_, hbl⟩
  · rw [Nat.div_eq_of_lt hN]; exact isNat_nil _
  · rw [if_neg (by omega), Nat.mod_eq_of_lt hN]
    have h2 := HF2.out
    rw [HT.out] at h2 hrow ⊢
    refine ⟨_, _, _, f2, rfl, Nat.le_refl _, hrow.rd0 (Nat.le_refl _), fun j hj => by rw [h2 j hj]; exact HF.out j (by have := tlen_le (f := f) n; omega), ?_, ?_⟩
    · rcases tlen_trimmed (f := f) n with h0 | h0
      · exact .inl h0
      · by_cases hz : tlen f n = 0
        · exact .inl hz
        · exact .inr (by rw [h2 _ (by omega)]; exact h0)
    · rw [num_congr _ h2, num_tlen]

theorem num_lt_two {f : Nat → Nat} {n : Nat} (hn : n ≤ 2) (hf : ∀ j, j < n → f j < 4294967296) : (num 4294967296 f n : Int) ≤ 18446744073709551615 := by
  rw [num_two hn]
  have h0 := limbOf_lt hf 0
  have h1 := limbOf_lt hf 1
  omega

set_option maxHeartbeats 1000000 in
theorem div_two (A : Option Addr) (n c : Nat) (f : Nat → Nat) (B : Option Addr) (m d : Nat) (h : Nat → Nat) (w : World) (ha : Rd .u32 w A n f) (hc : n ≤ c) (hn : n ≤ 8796093022208) (hf : ∀ j, j < n → f j < 4294967296)
    (hb : Rd .u32 w B m h) (hd : m ≤ d) (hm : m ≤ 8796093022208) (hh : ∀ j, j < m → h j < 4294967296) (h0 : 0 < tlen h m) (hge : tlen h m ≤ tlen f n) (h2 : tlen f n ≤ 2) :
    Calls Try.prog 24 #[.slice A n c, .slice B m d] w fun e w' => DivPost w w' e (num 4294967296 f n) (num 4294967296 h m) := by
  have C1 := fun w' hr' => cut_any A n c f w' hr' hc (by omega)
  have C2 := fun w' hr' => cut_any B m d h w' hr' hd (by omega)
  have W1 := fun w' hr' => word_any A (tlen f n) c f w' hr' (tlen_lt_dig hf) h2
  have W2 := fun w' hr' => word_any B (tlen h m) d h w' hr' (tlen_lt_dig hh) (by omega)
  rw [num_tlen] at W1 W2
  have hx := num_lt_two h2 (tlen_lt_dig hf)
  have hy0 := (tlen_trimmed (f := h) m).pos (B := 4294967296) (by omega) h0
  have hy := num_lt_two (f := h) (n := tlen h m) (by omega) (tlen_lt_dig hh)
  rw [num_tlen] at hx hy hy0
  have ha' := ha.less (tlen_le (f := f) n)
  have hb' := hb.less (tlen_le (f := h) m)
  clear hf hh
  generalize num 4294967296 f n = x at *
  generalize num 4294967296 h m = y at *
  have hq : x / y ≤ x := Nat.div_le_self _ _
  have hr : x % y < y := Nat.mod_lt _ hy0
  have O1 := fun w' => ofWord_any (x / y) w' (by omega)
  have O2 := fun w' => ofWord_any (x % y) w' (by omega)
  have HE : Hid (decide (0 < y) = true) := decide_eq_true (by omega)
  have g1 : (x : Int) / (y : Int) = ((x / y : Nat) : Int) := rfl
  have g2 : (x : Int) % (y : Int) = ((x % y : Nat) : Int) := rfl
  have HQ : Hid (∃ q r, x / y = q ∧ x % y = r) := ⟨_, _, rfl, rfl⟩
  obtain ⟨q, hq'⟩ : ∃ q, q = x / y := ⟨_, rfl⟩
  obtain ⟨r, hr'⟩ : ∃ r, r = x % y := ⟨_, rfl⟩
  rw [← hq'] at O1 g1 hq
  rw [← hr'] at O2 g2 hr
  have HQ' := Lib.hid hq'
  have HR' := Lib.hid hr'
  have D1 := Lib.hid C1
  have D2 := Lib.hid C2
  have DW1 := Lib.hid W1
  have DW2 := Lib.hid W2
  have DO1 := Lib.hid O1
  have DO2 := Lib.hid O2
  have hg1 : ((tlen h m : Int) == 0) = false := by rw [beq_eq_false_iff_ne]; omega
  clear C1 C2 W1 W2 O1 O2 hq' hr' HQ
  generalize tlen f n = p at *
  generalize tlen h m = s at *
  go_enter Try.func24, Try.ntmps24
  go_wp2_with fail
  refine (D1.out _ ha).mono ?_
  rintro e w' ⟨rfl, rfl⟩
  go_wp2_with fail
  refine (D2.out _ hb).mono ?_
  rintro e w' ⟨rfl, rfl⟩
  go_wp2_with fail
  refine (DW1.out _ ha').mono ?_
  rintro e w' ⟨rfl, rfl⟩
  go_wp2_with fail
  refine (DW2.out _ hb').mono ?_
  rintro e w' ⟨rfl, rfl⟩
  go_wp2_with fail
  refine (DO1.out _).mono ?_
  rintro e w1 ⟨v1, rfl, hv1, hb1⟩
  have ha1 := ha'.below hb1
  have hb1' := hb'.below hb1
  go_wp2_with fail
  refine (DW1.out _ ha1).mono ?_
  rintro e w' ⟨rfl, rfl⟩
  go_wp2_with fail
  refine (DW2.out _ hb1').mono ?_
  rintro e w' ⟨rfl, rfl⟩
  go_wp2_with fail
  refine (DO2.out _).mono ?_
  rintro e w2 ⟨v2, rfl, hv2, hb2⟩
  go_wp2
  go_ret3
  exact ⟨v1, v2, by rw [HE.out]; rfl, by rw [← HQ'.out]; exact hv1.below hb2, by rw [if_neg (by omega), ← HR'.out]; exact hv2, below_trans hb1 hb2⟩

theorem div_mod_of {x d q r : Nat} (h : q * d + r = x) (hr : r < d) : x / d = q ∧ x % d = r := by
  have hd : 0 < d := by omega
  constructor
  · rw [← h, Nat.add_comm, Nat.add_mul_div_right _ _ hd, Nat.div_eq_of_lt hr, Nat.zero_add]
  · rw [← h, Nat.add_comm, Nat.add_mul_mod_self_right, Nat.mod_eq_of_lt hr]

set_option maxHeartbeats 1000000 in
theorem div_one (A : Option Addr) (n c : Nat) (f : Nat → Nat) (B : Option Addr) (m d : Nat) (h : Nat → Nat) (w : World) (ha : Rd .u32 w A n f) (hc : n ≤ c) (hn : n ≤ 8796093022208) (hf : ∀ j, j < n → f j < 4294967296)
    (hb : Rd .u32 w B m h) (hd : m ≤ d) (hm : m ≤ 8796093022208) (hh : ∀ j, j < m → h j < 4294967296) (h1 : tlen h m = 1) (h2 : 2 < tlen f n) :
    Calls Try.prog 24 #[.slice A n c, .slice B m d] w fun e w' => DivPost w w' e (num 4294967296 f n) (num 4294967296 h m) := by
  have C1 := fun w' hr' => cut_any A n c f w' hr' hc (by omega)
  have C2 := fun w' hr' => cut_any B m d h w' hr' hd (by omega)
  rw [h1] at C2
  have hpn := tlen_le (f := f) n
  have hsm := tlen_le (f := h) m
  have T := fun hr' => trim_any A (tlen f n) c f w hr' (by omega) (by omega)
  have ht : tlen f (tlen f n) = tlen f n := tlen_eq (Nat.le_refl _) (fun j a b => by omega) (tlen_trimmed n)
  unfold TrimPost at T
  rw [ht] at T
  have hy0 := (tlen_trimmed (f := h) m).pos (B := 4294967296) (by omega) (by omega)
  have hy1 : num 4294967296 h m = h 0 := by
    rw [← num_tlen, h1]; simp [num]
  rw [num_tlen] at hy0
  rw [hy1] at hy0 ⊢
  have hy := hh 0 (by omega)
  obtain ⟨bd, rfl, hcell⟩ := hb 0 (by omega)
  have hcell0 : w.cell? bd = some (.int .u32 (h 0 : Nat)) := by simpa [Addr.add] using hcell
  have ha' := ha.less hpn
  have HF := Lib.hid (tlen_lt_dig hf)
  have HE : Hid (decide (0 < h 0) = true) := decide_eq_true (by omega)
  have HN := Lib.hid (num_tlen (B := 4294967296) (f := f) n)
  have D1 := Lib.hid C1
  have D2 := Lib.hid C2
  have DT := Lib.hid T
  clear C1 C2 T ht hf hh hy1 h1 hcell
  generalize tlen f n = p at *
  generalize h 0 = y at *
  go_enter Try.func24, Try.ntmps24
  go_wp2_with fail
  refine (D1.out _ ha).mono ?_
  rintro e w' ⟨rfl, rfl⟩
  go_wp2_with fail
  refine (D2.out _ hb).mono ?_
  rintro e w' ⟨rfl, rfl⟩
  go_wp2_with fail
  refine (DT.out ha').mono ?_
  rintro e w1 ⟨rfl, f2, hrow, hf2, hbl, hs⟩
  have hc1 : w1.cell? bd = some (.int .u32 (y : Nat)) := (hbl.cell (p := bd) (block_lt_of_cell hcell0)).trans hcell0
  have HF2 := Lib.hid hf2
  have DS := Lib.hid (divShort_any w.heap.size 0 p p p y f2 w1 hrow (by omega) hy0 hy (fun j hj => by rw [Nat.zero_add, HF2.out j hj]; exact HF.out j hj) (by omega))
  clear hf2 hcell0 D1 D2 DT ha ha' hb
  go_wp2_with fail
  refine DS.out.mono ?_
  rintro e w2 ⟨rest, f3, rfl, hinv⟩
  obtain ⟨i1, i2, i3, i4, i5, i6⟩ := hinv
  simp only [Nat.sub_self, Nat.add_zero, Nat.zero_add, Nat.zero_le, true_and, forall_const] at i4 i5 i6
  rw [num_congr (f := f2) (f' := f) p HF2.out, HN.out] at i6
  obtain ⟨e1, e2⟩ := div_mod_of i6 i1
  have q1 : IsNat w2 (.slice (some ⟨w.heap.size, 0, none⟩) (tlen f3 p) p) (num 4294967296 f n / y) := isNat_row i2 (Nat.le_refl _) (Nat.le_refl _) i5 e1.symm
  have hb2 : Below w.heap.size w w2 := i3.below hbl hbl.size (Nat.le_refl _)
  have q3 := i2.rd0 (Nat.le_refl p)
  have E2 := Lib.hid e2
  clear i2 i3 i4 i5 i6 e1 e2
  go_wp2_with fail
  refine (cut_any _ p p _ _ q3 (Nat.le_refl _) (by omega)).mono ?_
  rintro e w' ⟨rfl, rfl⟩
  go_wp2_with fail
  refine (cut_one rest w2 (by omega) _ rfl).mono ?_
  rintro e w3 ⟨v, rfl, hv, hb3⟩
  go_wp2
  go_ret3
  exact ⟨_, v, by rw [HE.out]; rfl, q1.below hb3, by rw [if_neg (by omega), E2.out]; exact hv, below_trans hb2 hb3⟩
end Go.Proofs.Ytonjecddhbckgaa
