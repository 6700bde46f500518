/- Contracts: Div, whole. -/
import Derived.Test.YtonjecddhbckgaaDl
import Derived.Test.YtonjecddhbckgaaCw
namespace Go.Proofs.Ytonjecddhbckgaa
open Go.RowKit

set_option maxHeartbeats 1000000 in
theorem div_long (A : Option Addr) (n c : Nat) (f : Nat → Nat) (B : Option Addr) (m d : Nat) (h : Nat → Nat) (w : World) (ha : Rd .u32 w A n f) (hc : n ≤ c) (hn : n ≤ 8796093022207) (hf : ∀ j, j < n → f j < 4294967296)
    (hb : Rd .u32 w B m h) (hd : m ≤ d) (hm : m ≤ 8796093022207) (hh : ∀ j, j < m → h j < 4294967296) (h1 : 2 ≤ tlen h m) (hge : tlen h m ≤ tlen f n) (h2 : 2 < tlen f n) :
    Calls Try.prog 24 #[.slice A n c, .slice B m d] w fun e w' => DivPost w w' e (num 4294967296 f n) (num 4294967296 h m) := by
  have hpn := tlen_le (f := f) n
  have hsm := tlen_le (f := h) m
  have C1 := fun w' hr' => cut_any A n c f w' hr' hc (by omega)
  have C2 := fun w' hr' => cut_any B m d h w' hr' hd (by omega)
  have hy0 := (tlen_trimmed (f := h) m).pos (B := 4294967296) (by omega) (by omega)
  have HN := num_tlen (B := 4294967296) (f := f) n
  have HM := num_tlen (B := 4294967296) (f := h) m
  rw [HM] at hy0
  obtain ⟨k, hk⟩ : ∃ k, tlen h m = k + 1 := ⟨tlen h m - 1, by omega⟩
  have htop : h k ≠ 0 := by
    rcases tlen_trimmed (f := h) m with h0 | h0
    · omega
    · rwa [hk] at h0
  have ha' := ha.less hpn
  have hb' := hb.less hsm
  have hf' := tlen_lt_dig hf
  have hh' := tlen_lt_dig hh
  rw [hk] at C2 hb' hh' HM hge hsm
  have DL := Lib.hid (divLong_any A (tlen f n) c f B k d h w ha' (by omega) hf' hb' (by omega) hge hh' htop)
  rw [HN, HM] at DL
  have HE : Hid (decide (0 < num 4294967296 h m) = true) := decide_eq_true hy0
  have HY := Lib.hid hy0
  have D1 := Lib.hid C1
  have D2 := Lib.hid C2
  clear C1 C2 hy0 HN HM ha' hb' hf' hh' htop hf hh
  generalize tlen f n = p at *
  have hk1 : 1 ≤ k := by omega
  clear hk h1
  go_enter Try.func24, Try.ntmps24
  go_wp2_with fail
  refine (D1.out _ ha).mono ?_
  rintro e w' ⟨rfl, rfl⟩
  go_wp2_with fail
  refine (D2.out _ hb).mono ?_
  rintro e w' ⟨rfl, rfl⟩
  clear D1 D2 ha hb
  have hg1 : (((k + 1 : Nat) : Int) == 0) = false := by rw [beq_eq_false_iff_ne]; omega
  have hg2 : (((k + 1 : Nat) : Int) == 1) = false := by rw [beq_eq_false_iff_ne]; omega
  have hg3 : (((k : Int) + 1) == 0) = false := by rw [beq_eq_false_iff_ne]; omega
  have hg4 : (((k : Int) + 1) == 1) = false := by rw [beq_eq_false_iff_ne]; omega
  go_wp2_with fail
  refine DL.out.mono ?_
  rintro e w1 ⟨vq, vr, rfl, q1, q2, q3⟩
  have Q1 := Lib.hid q1
  have Q2 := Lib.hid q2
  have Q3 := Lib.hid q3
  clear q1 q2 q3 DL
  go_wp2
  go_ret3
  exact ⟨_, _, by rw [HE.out]; rfl, Q1.out, by rw [if_neg (Nat.ne_of_gt HY.out)]; exact Q2.out, Q3.out⟩

theorem div_any (A : Option Addr) (n c : Nat) (f : Nat → Nat) (B : Option Addr) (m d : Nat) (h : Nat → Nat) (w : World) (ha : Rd .u32 w A n f) (hc : n ≤ c) (hn : n ≤ 8796093022207) (hf : ∀ j, j < n → f j < 4294967296)
    (hb : Rd .u32 w B m h) (hd : m ≤ d) (hm : m ≤ 8796093022207) (hh : ∀ j, j < m → h j < 4294967296) :
    Calls Try.prog 24 #[.slice A n c, .slice B m d] w fun e w' => DivPost w w' e (num 4294967296 f n) (num 4294967296 h m) := by
  by_cases h0 : tlen h m = 0
  · exact div_zero A n c f B m d h w ha hc (by omega) hb hd (by omega) h0
  by_cases h1 : tlen f n < tlen h m
  · exact div_less A n c f B m d h w ha hc (by omega) hf hb hd (by omega) h1
  by_cases h2 : tlen f n ≤ 2
  · exact div_two A n c f B m d h w ha hc (by omega) hf hb hd (by omega) hh (by omega) (by omega) h2
  by_cases h3 : tlen h m = 1
  · exact div_one A n c f B m d h w ha hc (by omega) hf hb hd (by omega) hh h3 (by omega)
  exact div_long A n c f B m d h w ha hc hn hf hb hd hm hh (by omega) (by omega) (by omega)

theorem lim_div {k m N M : Nat} {w : World} {v1 v2 : Value} (h1 : Lim k w v1 N) (h2 : Lim m w v2 M) (hk : k ≤ 1000000) (hm : m ≤ 1000000) : Calls Try.prog 24 #[v1, v2] w fun e w' => DivPost w w' e N M := by
  obtain ⟨A, n, c, f, rfl, a1, a2, a3, a4, rfl⟩ := h1
  obtain ⟨B, m, d, h, rfl, b1, b2, b3, b4, rfl⟩ := h2
  exact div_any A n c f B m d h w a2 a1 (by omega) a3 b2 b1 (by omega) b3
end Go.Proofs.Ytonjecddhbckgaa
