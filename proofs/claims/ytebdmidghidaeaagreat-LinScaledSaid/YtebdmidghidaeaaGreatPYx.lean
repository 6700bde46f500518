/- LinScaled. -/
import Derived.Test.YtebdmidghidaeaaGreatPYv
namespace Go.Proofs.YtebdmidghidaeaaGreat
open Go.RowKit
attribute [local go_sem ↓] Go.wp_at_zero Go.wp_at_succ
set_option linter.unusedVariables false
set_option linter.unusedSimpArgs false

theorem EQ.lq {p : Bool} {k : Nat} {w : World} {v : Value} {q : Rat} (h : EQ p k w v q) : LimQ k w v q := h.2
theorem OwnT.tabQq {p : Bool} {k base m : Nat} {w : World} {v : Value} {r : Nat → Value} {L : Nat → Nat} {F : Nat → Nat → Rat} (h : OwnT w base v m r) (hm : m ≤ 1000000) (hr : ∀ i, i < m → RowQ p k w (r i) (L i) (F i)) : TabQ p k w v m L F := by
  rcases h.2 with ⟨rfl, rfl⟩ | ⟨g, cap, cur, rfl, h2, h3, h4, _⟩
  · exact ⟨none, 0, rfl, ⟨Nat.le_refl _, fun _ => rfl⟩, by omega, fun i hi => absurd hi (by omega)⟩
  · refine ⟨some ⟨g, 0, none⟩, cap, rfl, ⟨h4, fun e => by cases e⟩, hm, fun i hi => ⟨_, _, rfl, h3.lt, ?_, hr i hi⟩⟩
    rw [add_mk, Nat.zero_add]; exact OwnT.at_ h hi
theorem TabQ.rows_ {p : Bool} {k m : Nat} {w : World} {A : Option Addr} {c : Nat} {L : Nat → Nat} {F : Nat → Nat → Rat} (h : TabQ p k w (.slice A m c) m L F) : ∃ r : Nat → Value, (∀ i, i < m → ∃ ad, A = some ad ∧ w.cell? (ad.add i) = some (r i)) ∧ ∀ i, i < m → RowQ p k w (r i) (L i) (F i) := by
  obtain ⟨A', c', e, h1, h2, h3⟩ := h
  injection e with e _ e'
  subst e
  have each : ∀ i, ∃ r : Value, i < m → (∃ ad, A = some ad ∧ w.cell? (ad.add i) = some r) ∧ RowQ p k w r (L i) (F i) := fun i => by
    by_cases hi : i < m
    · obtain ⟨ad, r, e, _, h5, h6⟩ := h3 i hi
      exact ⟨r, fun _ => ⟨⟨ad, e, h5⟩, h6⟩⟩
    · exact ⟨.bool false, fun h => absurd h hi⟩
  obtain ⟨r, hr⟩ := Classical.axiomOfChoice each
  exact ⟨r, fun i hi => (hr i hi).1, fun i hi => (hr i hi).2⟩
theorem RowQ.rows_ {p : Bool} {k n : Nat} {w : World} {A : Option Addr} {c : Nat} {f : Nat → Rat} (h : RowQ p k w (.slice A n c) n f) : ∃ X : Nat → RatD, RowAt w A n X ∧ (A = none → n = 0 ∧ c = 0) ∧ ∀ i, i < n → EQ p k w (X i).val (f i) := by
  obtain ⟨A', c', X, e, h1, h2, h3, h4, h5⟩ := h.open_
  injection e with e _ e'
  subst e
  subst e'
  exact ⟨X, h4, h3, h5⟩
theorem TabQ.fits {p : Bool} {k m : Nat} {w : World} {A : Option Addr} {c : Nat} {L : Nat → Nat} {F : Nat → Nat → Rat} (h : TabQ p k w (.slice A m c) m L F) : A = none → m = 0 ∧ c = 0 := by
  obtain ⟨A', c', e, h1, h2, h3⟩ := h
  injection e with e _ e'
  subst e
  subst e'
  exact fun hA => ⟨by have := h1.2 hA; have := h1.1; omega, h1.2 hA⟩
/-- A row so many times, and what it comes to. -/
theorem sol_scaled {F : Nat → Nat → Rat} {g x : Nat → Rat} {n i : Nat} {q : Rat} (hq : q ≠ 0) : Sol (updR F i (fun l => 0 + q * F i l)) (updR g i (g i * q)) n x ↔ Sol F g n x := by
  have h : ∀ j, dotF (updR F i (fun l => 0 + q * F i l) j) x n = updR g i (g i * q) j ↔ dotF (F j) x n = g j := fun j => by
    by_cases hj : j = i
    · subst hj
      rw [updR_at, updR_at, show (fun l => 0 + q * F j l) = (fun l => 0 + F j l * q) from funext fun l => by rw [Rat.mul_comm q], dotF_times]
      constructor
      · intro h; grind
      · intro h; grind
    · rw [updR_ne _ _ hj, updR_ne _ _ hj]
  exact ⟨fun s j hj => (h j).1 (s j hj), fun s j hj => (h j).2 (s j hj)⟩
theorem uniq_scaled {F : Nat → Nat → Rat} {g y : Nat → Rat} {n i : Nat} {q : Rat} (hq : q ≠ 0) : Uniq (updR F i (fun l => 0 + q * F i l)) (updR g i (g i * q)) n y ↔ Uniq F g n y :=
  ⟨fun h => ⟨(sol_scaled hq).1 h.1, fun x hx => h.2 x ((sol_scaled hq).2 hx)⟩, fun h => ⟨(sol_scaled hq).2 h.1, fun x hx => h.2 x ((sol_scaled hq).1 hx)⟩⟩
theorem dotF_r (f x : Nat → Rat) (c : Rat) (n : Nat) : dotF f (fun l => x l * c) n = dotF f x n * c := by
  rw [dotF_sum, dotF_sum, ← sumF_mul]
  exact sumF_congr n fun k _ => by grind
theorem sol_twice {F : Nat → Nat → Rat} {g x : Nat → Rat} {n : Nat} : Sol F (fun i => g i + 1 * g i) n (fun l => x l * 2) ↔ Sol F g n x := by
  have h : ∀ j, dotF (F j) (fun l => x l * 2) n = g j + 1 * g j ↔ dotF (F j) x n = g j := fun j => by
    rw [dotF_r]
    constructor
    · intro h; grind
    · intro h; grind
  exact ⟨fun s j hj => (h j).1 (s j hj), fun s j hj => (h j).2 (s j hj)⟩
theorem uniq_twice {F : Nat → Nat → Rat} {g y : Nat → Rat} {n : Nat} (h : Uniq F g n y) : Uniq F (fun i => g i + 1 * g i) n (fun i => y i + 1 * y i) := by
  have e : ∀ x : Nat → Rat, (fun l => x l / 2 * 2) = x := fun x => funext fun l => by grind
  refine ⟨?_, fun x hx j hj => ?_⟩
  · rw [show (fun i => y i + 1 * y i) = (fun i => y i * 2) from funext fun i => by grind]
    exact sol_twice.2 h.1
  · rw [← e x] at hx
    have := h.2 _ (sol_twice.1 hx) j hj
    show x j = y j + 1 * y j
    rw [← this]; grind
theorem uniq_half {F : Nat → Nat → Rat} {g z : Nat → Rat} {n : Nat} (h : Uniq F (fun i => g i + 1 * g i) n z) : Uniq F g n (fun i => z i / 2) := by
  have e : (fun l => z l / 2 * 2) = z := funext fun l => by grind
  refine ⟨sol_twice.1 (by rw [e]; exact h.1), fun x hx j hj => ?_⟩
  have := h.2 _ (sol_twice.2 hx) j hj
  show x j = z j / 2
  rw [← this]; grind
theorem szF_le {m : Nat} (h : m ≤ 4) : szF 4 m ≤ 1109 := Nat.le_trans (szF_mono 4 h) (by decide)
theorem szF_le1 {m : Nat} (h : m ≤ 4) : szF 1 m ≤ 341 := Nat.le_trans (szF_mono 1 h) (by decide)

set_option maxRecDepth 100000 in
set_option maxHeartbeats 8000000 in
theorem scaled_a (A : Option Addr) (ca m : Nat) (Ln : Nat → Nat) (X : Nat → Nat → RatD) (F : Nat → Nat → Rat) (B : Option Addr) (cb mb : Nat) (Y : Nat → RatD) (h : Nat → Rat) (kn : Nat) (w : World) (ht : TabR w (.slice A m ca) m Ln X F) (hb : RowR w (.slice B mb cb) mb Y h) (hkn : kn < 256) (hne : m ≠ mb) :
    Calls Tryz.prog 9 #[.slice A m ca, .slice B mb cb, .int .u8 (kn : Nat)] w fun e w' => e = .returned (.bool true) ∧ Below w.heap.size w w' := by
  have t_0 := Lib.hid ht
  have b_0 := Lib.hid hb
  clear ht hb
  go_enter Tryz.func9, Tryz.ntmps9
  have hne0 : ¬ ((mb : Int) = (m : Int)) := by omega
  go_wp2_with fail
  refine Calls.mono (awake10 _) ?_
  rintro e w1 ⟨rfl, hb⟩
  have hBw := (show Below w.heap.size w w1 from by first | exact hb | exact bundrew hb)
  have t_1 := Lib.hid (t_0.out.below hBw)
  have b_1 := Lib.hid (b_0.out.below hBw)
  have HB_1 := Lib.hid (hBw)
  clear hBw hb t_0 b_0
  go_wp2_with fail
  refine Calls.mono (rfewrows (N := 4) t_1.out (by omega)) ?_
  rintro e wq ⟨⟨b, rfl, hb⟩, hw⟩
  have hw' := hw.symm
  subst hw'
  clear hw
  cases b
  · clear hb
    go_wp2
    go_ret
    exact ⟨rfl, HB_1.out⟩
  have hft := Lib.hid (hb.1 rfl)
  clear hb
  go_wp2_with fail
  refine Calls.mono (rfew (N := 4) b_1.out (by omega)) ?_
  rintro e wq ⟨⟨b, rfl, hb⟩, hw⟩
  have hw' := hw.symm
  subst hw'
  clear hw
  cases b
  · clear hb
    go_wp2
    go_ret
    exact ⟨rfl, HB_1.out⟩
  have hfb := Lib.hid (hb.1 rfl)
  clear hb
  have T_1 := Lib.hid (t_1.out.few hft.out.1 hft.out.2 (by omega))
  have B_1 := Lib.hid (b_1.out.few hfb.out (by omega))
  have hm : m ≤ 4 := hft.out.1
  have hmb := hfb.out.1
  have hLn := Lib.hid (fun i (hi : i < m) => (hft.out.2 i hi).1)
  clear t_1 b_1 hft hfb
  go_wp2
  go_ret
  exact ⟨rfl, HB_1.out⟩

set_option maxRecDepth 100000 in
set_option maxHeartbeats 8000000 in
theorem scaled_b (A : Option Addr) (ca m : Nat) (Ln : Nat → Nat) (X : Nat → Nat → RatD) (F : Nat → Nat → Rat) (B : Option Addr) (cb mb : Nat) (Y : Nat → RatD) (h : Nat → Rat) (kn : Nat) (w : World) (ht : TabR w (.slice A m ca) m Ln X F) (hb : RowR w (.slice B mb cb) mb Y h) (hkn : kn < 256) (hne : m = mb) (hL : ¬ ∀ i, i < m → Ln i = m) :
    Calls Tryz.prog 9 #[.slice A m ca, .slice B mb cb, .int .u8 (kn : Nat)] w fun e w' => e = .returned (.bool true) ∧ Below w.heap.size w w' := by
  have t_0 := Lib.hid ht
  have b_0 := Lib.hid hb
  clear ht hb
  go_enter Tryz.func9, Tryz.ntmps9
  subst hne
  have HL := Lib.hid hL
  clear hL
  go_wp2_with fail
  refine Calls.mono (awake10 _) ?_
  rintro e w1 ⟨rfl, hb⟩
  have hBw := (show Below w.heap.size w w1 from by first | exact hb | exact bundrew hb)
  have t_1 := Lib.hid (t_0.out.below hBw)
  have b_1 := Lib.hid (b_0.out.below hBw)
  have HB_1 := Lib.hid (hBw)
  clear hBw hb t_0 b_0
  go_wp2_with fail
  refine Calls.mono (rfewrows (N := 4) t_1.out (by omega)) ?_
  rintro e wq ⟨⟨b, rfl, hb⟩, hw⟩
  have hw' := hw.symm
  subst hw'
  clear hw
  cases b
  · clear hb
    go_wp2
    go_ret
    exact ⟨rfl, HB_1.out⟩
  have hft := Lib.hid (hb.1 rfl)
  clear hb
  go_wp2_with fail
  refine Calls.mono (rfew (N := 4) b_1.out (by omega)) ?_
  rintro e wq ⟨⟨b, rfl, hb⟩, hw⟩
  have hw' := hw.symm
  subst hw'
  clear hw
  cases b
  · clear hb
    go_wp2
    go_ret
    exact ⟨rfl, HB_1.out⟩
  have hfb := Lib.hid (hb.1 rfl)
  clear hb
  have T_1 := Lib.hid (t_1.out.few hft.out.1 hft.out.2 (by omega))
  have B_1 := Lib.hid (b_1.out.few hfb.out (by omega))
  have hm : m ≤ 4 := hft.out.1
  have hmb := hfb.out.1
  have hLn := Lib.hid (fun i (hi : i < m) => (hft.out.2 i hi).1)
  clear t_1 b_1 hft hfb
  go_wp2_with fail
  refine Calls.mono (rrect T_1.out) ?_
  rintro e wq ⟨⟨b, rfl, hb⟩, hw⟩
  have hw' := hw.symm
  subst hw'
  clear hw
  obtain rfl : b = false := by
    cases b
    · rfl
    · exact absurd (fun i hi => by have := hb.1 rfl i hi; omega) HL.out
  clear hb
  go_wp2
  go_ret
  exact ⟨rfl, HB_1.out⟩

set_option maxRecDepth 100000 in
set_option maxHeartbeats 8000000 in
theorem scaled_c (A : Option Addr) (ca m : Nat) (Ln : Nat → Nat) (X : Nat → Nat → RatD) (F : Nat → Nat → Rat) (B : Option Addr) (cb mb : Nat) (Y : Nat → RatD) (h : Nat → Rat) (kn : Nat) (w : World) (ht : TabR w (.slice A m ca) m Ln X F) (hb : RowR w (.slice B mb cb) mb Y h) (hkn : kn < 256) (hne : m = mb) (hL : ∀ i, i < m → Ln i = m) (h0 : m = 0) :
    Calls Tryz.prog 9 #[.slice A m ca, .slice B mb cb, .int .u8 (kn : Nat)] w fun e w' => e = .returned (.bool true) ∧ Below w.heap.size w w' := by
  have t_0 := Lib.hid ht
  have b_0 := Lib.hid hb
  clear ht hb
  go_enter Tryz.func9, Tryz.ntmps9
  subst hne
  have HL := Lib.hid hL
  clear hL
  have h00 : ((m : Int) == 0) = true := by rw [h0]; rfl
  clear h0
  go_wp2_with fail
  refine Calls.mono (awake10 _) ?_
  rintro e w1 ⟨rfl, hb⟩
  have hBw := (show Below w.heap.size w w1 from by first | exact hb | exact bundrew hb)
  have t_1 := Lib.hid (t_0.out.below hBw)
  have b_1 := Lib.hid (b_0.out.below hBw)
  have HB_1 := Lib.hid (hBw)
  clear hBw hb t_0 b_0
  go_wp2_with fail
  refine Calls.mono (rfewrows (N := 4) t_1.out (by omega)) ?_
  rintro e wq ⟨⟨b, rfl, hb⟩, hw⟩
  have hw' := hw.symm
  subst hw'
  clear hw
  cases b
  · clear hb
    go_wp2
    go_ret
    exact ⟨rfl, HB_1.out⟩
  have hft := Lib.hid (hb.1 rfl)
  clear hb
  go_wp2_with fail
  refine Calls.mono (rfew (N := 4) b_1.out (by omega)) ?_
  rintro e wq ⟨⟨b, rfl, hb⟩, hw⟩
  have hw' := hw.symm
  subst hw'
  clear hw
  cases b
  · clear hb
    go_wp2
    go_ret
    exact ⟨rfl, HB_1.out⟩
  have hfb := Lib.hid (hb.1 rfl)
  clear hb
  have T_1 := Lib.hid (t_1.out.few hft.out.1 hft.out.2 (by omega))
  have B_1 := Lib.hid (b_1.out.few hfb.out (by omega))
  have hm : m ≤ 4 := hft.out.1
  have hmb := hfb.out.1
  have hLn := Lib.hid (fun i (hi : i < m) => (hft.out.2 i hi).1)
  clear t_1 b_1 hft hfb
  go_wp2_with fail
  refine Calls.mono (rrect T_1.out) ?_
  rintro e wq ⟨⟨b, rfl, hb⟩, hw⟩
  have hw' := hw.symm
  subst hw'
  clear hw
  obtain rfl : b = true := hb.2 (fun i hi => by rw [HL.out i hi])
  clear hb
  go_wp2
  go_ret
  exact ⟨rfl, HB_1.out⟩

set_option maxRecDepth 100000 in
set_option maxHeartbeats 8000000 in
theorem scaled_d (A : Option Addr) (ca m : Nat) (Ln : Nat → Nat) (X : Nat → Nat → RatD) (F : Nat → Nat → Rat) (B : Option Addr) (cb mb : Nat) (Y : Nat → RatD) (h : Nat → Rat) (kn : Nat) (w : World) (ht : TabR w (.slice A m ca) m Ln X F) (hb : RowR w (.slice B mb cb) mb Y h) (hkn : kn < 256) (hne : m = mb) (hL : ∀ i, i < m → Ln i = m) (h0 : m ≠ 0) :
    Calls Tryz.prog 9 #[.slice A m ca, .slice B mb cb, .int .u8 (kn : Nat)] w fun e w' => e = .returned (.bool true) ∧ Below w.heap.size w w' := by
  have t_0 := Lib.hid ht
  have b_0 := Lib.hid hb
  clear ht hb
  go_enter Tryz.func9, Tryz.ntmps9
  subst hne
  have HL := Lib.hid hL
  clear hL
  have h00 : ((m : Int) == 0) = false := by rw [beq_eq_false_iff_ne]; omega
  go_wp2_with fail
  refine Calls.mono (awake10 _) ?_
  rintro e w1 ⟨rfl, hb⟩
  have hBw := (show Below w.heap.size w w1 from by first | exact hb | exact bundrew hb)
  have t_1 := Lib.hid (t_0.out.below hBw)
  have b_1 := Lib.hid (b_0.out.below hBw)
  have HB_1 := Lib.hid (hBw)
  clear hBw hb t_0 b_0
  go_wp2_with fail
  refine Calls.mono (rfewrows (N := 4) t_1.out (by omega)) ?_
  rintro e wq ⟨⟨b, rfl, hb⟩, hw⟩
  have hw' := hw.symm
  subst hw'
  clear hw
  cases b
  · clear hb
    go_wp2
    go_ret
    exact ⟨rfl, HB_1.out⟩
  have hft := Lib.hid (hb.1 rfl)
  clear hb
  go_wp2_with fail
  refine Calls.mono (rfew (N := 4) b_1.out (by omega)) ?_
  rintro e wq ⟨⟨b, rfl, hb⟩, hw⟩
  have hw' := hw.symm
  subst hw'
  clear hw
  cases b
  · clear hb
    go_wp2
    go_ret
    exact ⟨rfl, HB_1.out⟩
  have hfb := Lib.hid (hb.1 rfl)
  clear hb
  have T_1 := Lib.hid (t_1.out.few hft.out.1 hft.out.2 (by omega))
  have B_1 := Lib.hid (b_1.out.few hfb.out (by omega))
  have hm : m ≤ 4 := hft.out.1
  have hmb := hfb.out.1
  have hLn := Lib.hid (fun i (hi : i < m) => (hft.out.2 i hi).1)
  clear t_1 b_1 hft hfb
  go_wp2_with fail
  refine Calls.mono (rrect T_1.out) ?_
  rintro e wq ⟨⟨b, rfl, hb⟩, hw⟩
  have hw' := hw.symm
  subst hw'
  clear hw
  obtain rfl : b = true := hb.2 (fun i hi => by rw [HL.out i hi])
  clear hb
  have T2 := Lib.hid (T_1.out.congr (L' := fun _ => m) HL.out (fun _ _ _ _ => rfl))
  clear T_1
  have T_1 := T2
  clear T2
  obtain ⟨i0, hi0⟩ : ∃ i0, kn % m = i0 := ⟨_, rfl⟩
  have hmod : (kn : Int) % (m : Int) = (i0 : Int) := by rw [← hi0]; exact (Int.natCast_emod kn m).symm
  have hlt : i0 < m := by rw [← hi0]; exact Nat.mod_lt _ (by omega)
  have hlt0 : (0 : Int) ≤ (i0 : Int) := by omega
  have hlt1 : (i0 : Int) < (m : Int) := by omega
  obtain ⟨q, hq⟩ : ∃ q, Rat.divInt (2 + (kn : Int)) 1 = q := ⟨_, rfl⟩
  have bq : BQ 1 q := by rw [← hq]; exact divInt_bq (k := 1) (l := 1) (by omega) (by omega) (by decide) (Nat.le_refl 1) (Nat.le_refl 1)
  have hq0 : Hid (q ≠ 0) := fun e => by
    obtain ⟨e1, _, _⟩ := divInt_parts (2 + (kn : Int)) (Y := 1) (by omega)
    rw [hq, e] at e1
    have : (2 + (kn : Int)) = 0 := by rw [← e1]; simp
    omega
  have BQ1 := Lib.hid bq
  have HQ := Lib.hid hq
  clear hi0 bq hq
  go_wp2_with fail
  refine Calls.mono (lawOf_is HQ.out _ (by omega) (by omega)) ?_
  rintro e w2 ⟨v, rfl, h, hb⟩
  obtain ⟨b2, A2, n2, c2, d2, B2, m2, k2, rfl, -, -, -, -, -⟩ := h.form
  have hE := EQ.of (p := true) h BQ1.out
  have hBw := (show Below w1.heap.size w1 w2 from by first | exact hb | exact bundrew hb)
  have T_2 := Lib.hid (T_1.out.below hBw)
  have B_2 := Lib.hid (B_1.out.below hBw)
  have nq_2 := Lib.hid (hE)
  have HB_2 := Lib.hid (below_trans HB_1.out hBw)
  clear hBw hb T_1 B_1 HB_1
  clear h hE
  go_wp2_with (first
    | (at_make; generalize hW : (w2.alloc (.cells #[.bool b2, .slice A2 n2 c2, .bool d2, .slice B2 m2 k2] 27)) = w3; refine wpList_make_rats rfl rfl _ _ rfl w3.heap.size _ _ _ _ m rfl rfl rfl rfl (by omega) (Nat.le_refl _) ?_; intro w4 hown hb hsw; have T_3 := Lib.hid (hW ▸ T_2.out.alloc_ _); have B_3 := Lib.hid (hW ▸ B_2.out.alloc_ _); have nq_3 := Lib.hid (hW ▸ nq_2.out.alloc_ _); have k8_3 : Hid (Blk w3 w2.heap.size 27 #[.bool b2, .slice A2 n2 c2, .bool d2, .slice B2 m2 k2]) := hW ▸ Blk.new _ _ rfl _ _; have HB_3 := Lib.hid (show Below w.heap.size w w3 from hW ▸ halloc HB_2.out); clear hW T_2 B_2 nq_2 HB_2; have hO := Lib.hid (OwnR.zeros hown (by omega)); clear hown hsw; have hBw := (show Below w3.heap.size w3 w4 from by first | exact hb | exact bundrew hb); have T_4 := Lib.hid (T_3.out.below hBw); have B_4 := Lib.hid (B_3.out.below hBw); have nq_4 := Lib.hid (nq_3.out.below hBw); have k8_4 := Lib.hid (k8_3.out.below hBw); have zr_4 := Lib.hid (hO.out); have HB_4 := Lib.hid (below_trans HB_3.out hBw); clear hBw hb T_3 B_3 nq_3 k8_3 HB_3; clear hO)
    | (at_builtin; obtain ⟨tr, htr1, htr2'⟩ := T_4.out.rows_; have htr2 := Lib.hid htr2'; have hA := T_4.out.fits; clear htr2'; obtain ⟨td, ct', R0, cR0, eT, _, htb, _⟩ := T_4.out.at_ hlt; simp only [Value.slice.injEq] at eT; obtain ⟨rfl, _, rfl⟩ := eT; have hg8 : w2.heap.size < w4.heap.size := k8_4.out.lt; have T4 := T_4; have B4 := B_4; have nq4 := nq_4; have k84 := k8_4; have zr4 := zr_4; have HB4 := HB_4; refine wpList_append_rows rfl rfl (.tmp 63) (.tmp 64) rfl (base := w4.heap.size) (n := 0) (m := m) (c := ca) (r := fun _ => .slice none 0 0) (t := tr) rfl (ownT_empty w4 _) rfl (fun i hi => (by obtain ⟨ad, e, h⟩ := htr1 i hi; exact ⟨ad, e, ((below_new w4 _).cell (p := ad.add i) (block_lt_of_cell h)).trans h⟩)) (fun i hi => (by obtain ⟨A, c, e, _⟩ := (htr2.out i hi).len; exact ⟨A, _, c, e⟩)) hA (by omega) (by simp) ?_; intro v5 w5 hown hfz; have hb := (below_new w4 (.cells #[] 22)).trans hfz.below; have hO := Lib.hid (show OwnT w5 w4.heap.size v5 m tr from by have := OwnT.congr hown (r' := tr) (fun i hi => by have := appR_ge (fun _ => (.slice none 0 0 : Value)) 0 tr i; rw [Nat.zero_add] at this; exact this); rw [Nat.zero_add] at this; exact this); clear hown hfz; have hBw := (show Below w4.heap.size w4 w5 from by first | exact hb | exact bundrew hb); have T_5 := Lib.hid (T_4.out.below hBw); have B_5 := Lib.hid (B_4.out.below hBw); have nq_5 := Lib.hid (nq_4.out.below hBw); have k8_5 := Lib.hid (k8_4.out.below hBw); have zr_5 := Lib.hid (zr_4.out.below hBw); have u_5 := Lib.hid (hO.out); have hBT := Lib.hid hBw; have HBT' := Lib.hid hBw; have tc_5 := Lib.hid (fun i (hi : i < m) => (htr2.out i hi).below (show Below w4.heap.size w4 w5 from hBT.out)); have HB_5 := Lib.hid (below_trans HB_4.out hBw); clear hBw hb T_4 B_4 nq_4 k8_4 zr_4 HB_4; clear hO hBT))
  obtain ⟨gu, cu, rfl, hgu, _⟩ := OwnN.form u_5.out (by omega)
  have hB45 := Lib.hid (show Below w4.heap.size w4 w5 from by have := HBT'.out; exact this)
  obtain ⟨td', ct', R, cR, e1, _, _, hcell, _, _, hR⟩ := T_5.out.at_ hlt
  simp only [Value.slice.injEq, Option.some.injEq] at e1
  obtain ⟨rfl, _, rfl⟩ := e1
  have HR := Lib.hid hR
  have hcb : (td.add i0).block < w5.heap.size := by rw [add_block]; exact Nat.lt_of_lt_of_le htb hB45.out.size
  have hnt : gu ≠ (td.add i0).block := by rw [add_block]; omega
  have hnt2 : gu ≠ w2.heap.size := by omega
  have tok0 : True := trivial
  obtain ⟨p0, p1, p2, p3, pl⟩ := k8_5.out.use4
  clear hR
  go_region_held3 (fun w' => w'.cell? (td.add i0) = some (.slice R m cR) ∧ w'.cell? ⟨w2.heap.size, 0, none⟩ = some (.bool b2) ∧ w'.cell? ⟨w2.heap.size, 1, none⟩ = some (.slice A2 n2 c2) ∧ w'.cell? ⟨w2.heap.size, 2, none⟩ = some (.bool d2) ∧ w'.cell? ⟨w2.heap.size, 3, none⟩ = some (.slice B2 m2 k2)) (first | (refine ⟨?_, ?_, ?_, ?_, ?_⟩ <;> (first | with_reducible assumption | ((with_reducible refine Eq.trans (cell_drew _ _) ?_); with_reducible assumption) | ((repeat rw [World.cell?_setCell_far _ _ _ _ (by first | exact hnt | exact hnt2)]); with_reducible assumption) | go_keep)) | go_keep)
    (first
      | (go_at_call 15; have _t := tok0; clear _t tok0; ((with_reducible refine Calls.mono (raddTimes (K := 4) zr_5.out.drew_ HR.out.drew_ nq_5.out.lq.drew_ (by omega) (by omega) (by omega) (by omega) (by omega) (by omega) (by omega)) ?_)); rintro e w6 ⟨v, rfl, h, hb⟩; obtain ⟨VA, VC, rfl, _, _⟩ := h.rowQ.len; have hBw := (show Below w5.heap.size w5 w6 from by first | exact hb | exact bundrew hb); have hc2 := (hBw.cell (p := td.add i0) hcb).trans hcell; have hk := k8_5.out.below hBw; obtain ⟨q0, q1, q2, q3, ql⟩ := hk.use4; have HV := Lib.hid h; have HU := Lib.hid (u_5.out.below hBw); have hB56 := Lib.hid hBw; have s0 := HU.out.at_ hlt; have s1 := OwnN.frozenAt HU.out i0; clear h hb hBw hcell p0 p1 p2 p3 pl hk))
  obtain ⟨w7, hW⟩ : ∃ W, W = w6.setCell ⟨gu, i0, none⟩ (.slice VA m VC) := ⟨_, rfl⟩
  rw [← hW]
  obtain ⟨g1, g2, g3⟩ := OwnT.set1 HU.out hlt nu hW
  have hB47 := Lib.hid (show Below w4.heap.size w4 w7 from (below_trans hB45.out hB56.out).trans g2.below)
  have u_7 := Lib.hid g1
  have vr_7 := Lib.hid (HV.out.fz g2)
  have rows_7 := Lib.hid (fun i (hi : i < m) => (htr2.out i hi).below hB47.out)
  have HB_7 := Lib.hid (below_trans HB4.out hB47.out)
  have T_7 := Lib.hid (T4.out.below hB47.out)
  have B_7 := Lib.hid (B4.out.below hB47.out)
  have nq_7 := Lib.hid (nq4.out.below hB47.out)
  have k8_7 := Lib.hid (k84.out.below hB47.out)
  have zr_7 := Lib.hid (zr4.out.below hB47.out)
  clear hW g1 g2 g3 HU HV hB45 hB56 hB47 htr2 s0 s1 q0 q1 q2 q3 ql hc2 HR T4 B4 nq4 k84 zr4 HB4 T_5 B_5 nq_5 k8_5 zr_5 u_5 tc_5 HB_5 htr1
  go_wp2_with (at_builtin; obtain ⟨bx, hbR, hbA, hbE⟩ := B_7.out.rows_; have T7 := T_7; have B7 := B_7; have nq7 := nq_7; have k87 := k8_7; have zr7 := zr_7; have u7 := u_7; have vr7 := vr_7; have rows7 := rows_7; have HB7 := HB_7; refine wpList_append_rats rfl rfl (.tmp 79) (.tmp 80) rfl (base := w7.heap.size) (n := 0) (m := m) (c := cb) (X := bx) (Y := bx) rfl (ownR_empty w7 bx) rfl (hbR.below (below_new w7 _)) hbA (by omega) (by simp) ?_; intro v8 w8 hown hfz; have hB78 := Lib.hid ((below_new w7 (.cells #[] 27)).trans hfz.below); have hb := (below_new w7 (.cells #[] 27)).trans hfz.below; have hO := Lib.hid (show OwnR w8 w7.heap.size v8 m bx from by have := OwnR.congr hown (Y := bx) (fun i hi => by have := appR_ge bx 0 bx i; rw [Nat.zero_add] at this; exact this); rw [Nat.zero_add] at this; exact this); have hE := Lib.hid (fun i (hi : i < m) => (hbE i hi).below hb); clear hown hfz; have hBw := (show Below w7.heap.size w7 w8 from by first | exact hb | exact bundrew hb); have T_8 := Lib.hid (T_7.out.below hBw); have B_8 := Lib.hid (B_7.out.below hBw); have nq_8 := Lib.hid (nq_7.out.below hBw); have k8_8 := Lib.hid (k8_7.out.below hBw); have zr_8 := Lib.hid (zr_7.out.below hBw); have u_8 := Lib.hid (u_7.out.below hBw); have vr_8 := Lib.hid (vr_7.out.below hBw); have c_8 := Lib.hid (hO.out); have ce_8 := Lib.hid (hE.out); have rows_8 := Lib.hid (fun i (hi : i < m) => (rows_7.out i hi).below hBw); have HB_8 := Lib.hid (below_trans HB_7.out hBw); clear hBw hb T_7 B_7 nq_7 k8_7 zr_7 u_7 vr_7 HB_7; clear hO hE rows_7 hbR hbA hbE)
  obtain ⟨gc, cc, rfl, hgc, _⟩ := OwnN.form c_8.out (by omega)
  obtain ⟨bd, c1', ⟨b25, A25, n25, c25, d25, B25, m25, k25⟩, e1, _, _, hatb, hEb⟩ := B7.out.at_ hlt
  simp only [Value.slice.injEq] at e1
  obtain ⟨rfl, _, rfl⟩ := e1
  have hnb : gc ≠ (bd.add (i0 * 4)).block := by have := hatb.1; omega
  have hnb2 : gc ≠ w2.heap.size := by have := k87.out.lt; omega
  obtain ⟨y0, y1, y2, y3, y4⟩ := hatb.below hB78.out
  have HEb := Lib.hid (hEb.2.below hB78.out)
  have tok0 : True := trivial
  obtain ⟨p0, p1, p2, p3, pl⟩ := k8_8.out.use4
  clear hatb hEb
  go_region_held3 (fun w' => w'.cell? (bd.add (i0 * 4)) = some (.bool b25) ∧ w'.cell? ⟨(bd.add (i0 * 4)).block, (bd.add (i0 * 4)).off + 1, none⟩ = some (.slice A25 n25 c25) ∧ w'.cell? ⟨(bd.add (i0 * 4)).block, (bd.add (i0 * 4)).off + 2, none⟩ = some (.bool d25) ∧ w'.cell? ⟨(bd.add (i0 * 4)).block, (bd.add (i0 * 4)).off + 3, none⟩ = some (.slice B25 m25 k25) ∧ w'.cell? ⟨w2.heap.size, 0, none⟩ = some (.bool b2) ∧ w'.cell? ⟨w2.heap.size, 1, none⟩ = some (.slice A2 n2 c2) ∧ w'.cell? ⟨w2.heap.size, 2, none⟩ = some (.bool d2) ∧ w'.cell? ⟨w2.heap.size, 3, none⟩ = some (.slice B2 m2 k2)) (first | (refine ⟨?_, ?_, ?_, ?_, ?_, ?_, ?_, ?_⟩ <;> (first | with_reducible assumption | ((with_reducible refine Eq.trans (cell_drew _ _) ?_); with_reducible assumption) | ((repeat rw [World.cell?_setCell_far _ _ _ _ (by first | exact hnb | exact hnb2)]); with_reducible assumption) | go_keep)) | go_keep)
    (first
      | (go_at_call 28; have _t := tok0; clear _t tok0; ((with_reducible refine Calls.mono (rmul_q HEb.out.drew_ nq_8.out.lq.drew_ (by omega) (by omega) (by omega) (by omega)) ?_)); rintro e w9 ⟨v, rfl, h, hb⟩; obtain ⟨b26, A26, n26, c26, d26, B26, m26, k26, rfl, -, -, -, -, -⟩ := h.form; have hBw := (show Below w8.heap.size w8 w9 from by first | exact hb | exact bundrew hb); have z1 := (hBw.cell (p := (bd.add (i0 * 4))) y0).trans y1; have z2 := (hBw.cell (p := ⟨(bd.add (i0 * 4)).block, (bd.add (i0 * 4)).off + 1, none⟩) y0).trans y2; have z3 := (hBw.cell (p := ⟨(bd.add (i0 * 4)).block, (bd.add (i0 * 4)).off + 2, none⟩) y0).trans y3; have z4 := (hBw.cell (p := ⟨(bd.add (i0 * 4)).block, (bd.add (i0 * 4)).off + 3, none⟩) y0).trans y4; have hk := k8_8.out.below hBw; obtain ⟨q0, q1, q2, q3, ql⟩ := hk.use4; have HM := Lib.hid h; have HC := Lib.hid (c_8.out.below hBw); have hCE := Lib.hid (fun i (hi : i < m) => (ce_8.out i hi).below hBw); have hB89 := Lib.hid hBw; obtain ⟨s0, s1, s2, s3, s4, s5, s6, s7, s8⟩ := HC.out.spot hlt; clear h hb hBw y1 y2 y3 y4 p0 p1 p2 p3 pl hk))
  obtain ⟨w10, hW⟩ : ∃ W, W = ((((w9.setCell ⟨gc, i0 * 4, none⟩ (.bool b26)).setCell ⟨gc, i0 * 4 + 1, none⟩ (.slice A26 n26 c26)).setCell ⟨gc, i0 * 4 + 2, none⟩ (.bool d26)).setCell ⟨gc, i0 * 4 + 3, none⟩ (.slice B26 m26 k26)) := ⟨_, rfl⟩
  rw [← hW]
  obtain ⟨g1, g2, g3⟩ := OwnR.set4 HC.out hlt ⟨b26, A26, n26, c26, d26, B26, m26, k26⟩ hW
  have hB710 := Lib.hid (show Below w7.heap.size w7 w10 from (below_trans hB78.out hB89.out).trans g2.below)
  have c_10 : Hid (RowQ false 4 w10 (.slice (some ⟨gc, 0, none⟩) m cc) m (updR h i0 (h i0 * q))) := (OwnR.rowT g1 (by omega) (fun j hj => by
    by_cases hji : j = i0
    · subst hji; rw [updR_at, updR_at]; exact ((EQ.of (p := false) (k := 2) HM.out (BQ.mul (HEb.out.bq (by omega)) BQ1.out (by omega))).more (by omega)).kp g2.keep
    · rw [updR_ne _ _ hji, updR_ne _ _ hji]; exact ((hCE.out j hj).more (by omega)).kp g2.keep)).rowQ
  have u_10 := Lib.hid (u7.out.below hB710.out)
  have vr_10 := Lib.hid (vr7.out.below hB710.out)
  have rows_10 := Lib.hid (fun i (hi : i < m) => (rows7.out i hi).below hB710.out)
  have HB_10 := Lib.hid (below_trans HB7.out hB710.out)
  have T_10 := Lib.hid (T7.out.below hB710.out)
  have B_10 := Lib.hid (B7.out.below hB710.out)
  have U_10 : Hid (TabQ false 4 w10 (.slice (some ⟨gu, 0, none⟩) m cu) m (fun _ => m) (updR F i0 (fun l => 0 + q * F i0 l))) := OwnT.tabQq u_10.out (by omega) (fun j hj => by
    by_cases hji : j = i0
    · subst hji; rw [updR_at, updR_at]; exact vr_10.out.rowQ.weak
    · rw [updR_ne _ _ hji, updR_ne _ _ hji]; exact (rows_10.out j hj).more (by omega))
  clear hW g1 g2 g3 HC HM hCE HEb hB78 hB89 hB710 s0 s1 s2 s3 s4 s5 s6 s7 s8 q0 q1 q2 q3 ql z1 z2 z3 z4 T7 B7 nq7 k87 zr7 u7 vr7 rows7 HB7 T_8 B_8 nq_8 k8_8 zr_8 u_8 vr_8 rows_8 c_8 ce_8 HB_8 u_10 vr_10 rows_10
  go_wp2_with fail
  refine Calls.mono (lawOf_is law_d1 _ (by omega) (by omega)) ?_
  rintro e w11 ⟨v, rfl, h, hb⟩
  obtain ⟨b11, A11, n11, c11, d11, B11, m11, k11, rfl, -, -, -, -, -⟩ := h.form
  have hE := EQ.of (p := true) h bq1
  have hBw := (show Below w10.heap.size w10 w11 from by first | exact hb | exact bundrew hb)
  have T_11 := Lib.hid (T_10.out.below hBw)
  have B_11 := Lib.hid (B_10.out.below hBw)
  have c_11 := Lib.hid (c_10.out.below hBw)
  have U_11 := Lib.hid (U_10.out.below hBw)
  have on_11 := Lib.hid (hE)
  have HB_11 := Lib.hid (below_trans HB_10.out hBw)
  clear hBw hb T_10 B_10 c_10 U_10 HB_10
  clear h hE
  go_wp2_with fail
  refine Calls.mono (raddTimes (K := 4) B_11.out B_11.out on_11.out.2 (by omega) (by omega) (by omega) (by omega) (by omega) (by omega) (by omega)) ?_
  rintro e w12 ⟨v, rfl, h, hb⟩
  obtain ⟨SA, SC, rfl, _, _⟩ := h.rowQ.len
  have hBw := (show Below w11.heap.size w11 w12 from by first | exact hb | exact bundrew hb)
  have T_12 := Lib.hid (T_11.out.below hBw)
  have B_12 := Lib.hid (B_11.out.below hBw)
  have c_12 := Lib.hid (c_11.out.below hBw)
  have U_12 := Lib.hid (U_11.out.below hBw)
  have tw_12 := Lib.hid (h)
  have HB_12 := Lib.hid (below_trans HB_11.out hBw)
  clear hBw hb T_11 B_11 c_11 U_11 on_11 HB_11
  clear h
  have hs4 : szF 4 m ≤ 8001 := Nat.le_trans (szF_le hm) (by omega)
  have hs1 : szF 1 m ≤ 8001 := Nat.le_trans (szF_le1 hm) (by omega)
  have hs41 := szF_le hm
  have hs11 := szF_le1 hm
  have hsp : 1 ≤ szF 1 m := szF_pos (by omega) m
  go_wp2_with fail
  refine Calls.mono (lsolve T_12.out B_12.out (fun _ _ => by omega) (by omega) hs1) ?_
  rintro e w13 ⟨hb, hx⟩
  have hBw := (show Below w12.heap.size w12 w13 from by first | exact hb | exact bundrew hb)
  have T_13 := Lib.hid (T_12.out.below hBw)
  have B_13 := Lib.hid (B_12.out.below hBw)
  have c_13 := Lib.hid (c_12.out.below hBw)
  have U_13 := Lib.hid (U_12.out.below hBw)
  have tw_13 := Lib.hid (tw_12.out.below hBw)
  have HB_13 := Lib.hid (below_trans HB_12.out hBw)
  clear hBw hb T_12 B_12 c_12 U_12 tw_12 HB_12
  obtain ⟨v, xx, rfl, _, _, hux, hxr⟩ | ⟨rfl, hno⟩ := hx
  · have x_13 := Lib.hid hxr
    obtain ⟨XA, XC, rfl, _, _⟩ := hxr.rowQ.len
    clear hxr
    go_wp2_with fail
    refine Calls.mono (lsolve U_13.out c_13.out (fun _ _ => by omega) (by omega) hs4) ?_
    rintro e w14 ⟨hb, hy⟩
    obtain ⟨v, y, rfl, _, _, huy, hyr⟩ | ⟨_, hno⟩ := hy
    rotate_left
    · exact absurd (by first | exact ⟨rfl, fun _ _ => rfl, _, (uniq_scaled hq0.out).2 hux⟩ | exact ⟨trivial, fun _ _ => trivial, _, (uniq_scaled hq0.out).2 hux⟩) hno
    obtain ⟨YA, YC, rfl, _, _⟩ := hyr.rowQ.len
    have hBw := (show Below w13.heap.size w13 w14 from by first | exact hb | exact bundrew hb)
    have T_14 := Lib.hid (T_13.out.below hBw)
    have B_14 := Lib.hid (B_13.out.below hBw)
    have c_14 := Lib.hid (c_13.out.below hBw)
    have U_14 := Lib.hid (U_13.out.below hBw)
    have tw_14 := Lib.hid (tw_13.out.below hBw)
    have x_14 := Lib.hid (x_13.out.below hBw)
    have y_14 := Lib.hid (hyr)
    have HB_14 := Lib.hid (below_trans HB_13.out hBw)
    clear hBw hb T_13 B_13 c_13 U_13 tw_13 x_13 HB_13
    clear hyr
    go_wp2_with fail
    refine Calls.mono (lsolve (k := 4) (T_14.out.more (by omega)) tw_14.out.rowQ (fun _ _ => by omega) (by omega) hs4) ?_
    rintro e w15 ⟨hb, hz⟩
    obtain ⟨v, z, rfl, _, _, huz, hzr⟩ | ⟨_, hno⟩ := hz
    rotate_left
    · exact absurd (by first | exact ⟨rfl, fun _ _ => rfl, _, uniq_twice hux⟩ | exact ⟨trivial, fun _ _ => trivial, _, uniq_twice hux⟩) hno
    obtain ⟨ZA, ZC, rfl, _, _⟩ := hzr.rowQ.len
    have hBw := (show Below w14.heap.size w14 w15 from by first | exact hb | exact bundrew hb)
    have T_15 := Lib.hid (T_14.out.below hBw)
    have B_15 := Lib.hid (B_14.out.below hBw)
    have c_15 := Lib.hid (c_14.out.below hBw)
    have U_15 := Lib.hid (U_14.out.below hBw)
    have tw_15 := Lib.hid (tw_14.out.below hBw)
    have x_15 := Lib.hid (x_14.out.below hBw)
    have y_15 := Lib.hid (y_14.out.below hBw)
    have z_15 := Lib.hid (hzr)
    have HB_15 := Lib.hid (below_trans HB_14.out hBw)
    clear hBw hb T_14 B_14 c_14 U_14 tw_14 x_14 y_14 HB_14
    clear hzr
    go_wp2_with fail
    refine Calls.mono (lawOf_is law_d1 _ (by omega) (by omega)) ?_
    rintro e w16 ⟨v, rfl, h, hb⟩
    obtain ⟨b16, A16, n16, c16, d16, B16, m16, k16, rfl, -, -, -, -, -⟩ := h.form
    have hE := EQ.of (p := true) h bq1
    have hBw := (show Below w15.heap.size w15 w16 from by first | exact hb | exact bundrew hb)
    have T_16 := Lib.hid (T_15.out.below hBw)
    have B_16 := Lib.hid (B_15.out.below hBw)
    have c_16 := Lib.hid (c_15.out.below hBw)
    have U_16 := Lib.hid (U_15.out.below hBw)
    have tw_16 := Lib.hid (tw_15.out.below hBw)
    have x_16 := Lib.hid (x_15.out.below hBw)
    have y_16 := Lib.hid (y_15.out.below hBw)
    have z_16 := Lib.hid (z_15.out.below hBw)
    have on_16 := Lib.hid (hE)
    have HB_16 := Lib.hid (below_trans HB_15.out hBw)
    clear hBw hb T_15 B_15 c_15 U_15 tw_15 x_15 y_15 z_15 HB_15
    clear h hE
    go_wp2_with fail
    refine Calls.mono (raddTimes (K := szF 1 m + (1 + szF 1 m) + 1) x_16.out.rowQ x_16.out.rowQ on_16.out.2 (by omega) (by omega) (by omega) hsp hsp (by omega) (Nat.le_refl _)) ?_
    rintro e w17 ⟨v, rfl, h, hb⟩
    obtain ⟨EA, EC, rfl, _, _⟩ := h.rowQ.len
    have hBw := (show Below w16.heap.size w16 w17 from by first | exact hb | exact bundrew hb)
    have T_17 := Lib.hid (T_16.out.below hBw)
    have B_17 := Lib.hid (B_16.out.below hBw)
    have c_17 := Lib.hid (c_16.out.below hBw)
    have U_17 := Lib.hid (U_16.out.below hBw)
    have tw_17 := Lib.hid (tw_16.out.below hBw)
    have x_17 := Lib.hid (x_16.out.below hBw)
    have y_17 := Lib.hid (y_16.out.below hBw)
    have z_17 := Lib.hid (z_16.out.below hBw)
    have ww_17 := Lib.hid (h)
    have HB_17 := Lib.hid (below_trans HB_16.out hBw)
    clear hBw hb T_16 B_16 c_16 U_16 tw_16 x_16 y_16 z_16 on_16 HB_16
    clear h
    go_wp2_with fail
    refine Calls.mono (rsame x_17.out.rowQ y_17.out.rowQ (fun j hj => hux.eq ((uniq_scaled hq0.out).1 huy) j hj) (by omega)) ?_
    rintro e w18 ⟨rfl, hb⟩
    have hBw := (show Below w17.heap.size w17 w18 from by first | exact hb | exact bundrew hb)
    have T_18 := Lib.hid (T_17.out.below hBw)
    have B_18 := Lib.hid (B_17.out.below hBw)
    have c_18 := Lib.hid (c_17.out.below hBw)
    have U_18 := Lib.hid (U_17.out.below hBw)
    have tw_18 := Lib.hid (tw_17.out.below hBw)
    have x_18 := Lib.hid (x_17.out.below hBw)
    have y_18 := Lib.hid (y_17.out.below hBw)
    have z_18 := Lib.hid (z_17.out.below hBw)
    have ww_18 := Lib.hid (ww_17.out.below hBw)
    have HB_18 := Lib.hid (below_trans HB_17.out hBw)
    clear hBw hb T_17 B_17 c_17 U_17 tw_17 x_17 y_17 z_17 ww_17 HB_17
    go_wp2_with fail
    refine Calls.mono (rsame z_18.out.rowQ ww_18.out.rowQ (fun j hj => huz.eq (uniq_twice hux) j hj) (by omega)) ?_
    rintro e w19 ⟨rfl, hb⟩
    have hBw := (show Below w18.heap.size w18 w19 from by first | exact hb | exact bundrew hb)
    have T_19 := Lib.hid (T_18.out.below hBw)
    have B_19 := Lib.hid (B_18.out.below hBw)
    have c_19 := Lib.hid (c_18.out.below hBw)
    have U_19 := Lib.hid (U_18.out.below hBw)
    have tw_19 := Lib.hid (tw_18.out.below hBw)
    have x_19 := Lib.hid (x_18.out.below hBw)
    have y_19 := Lib.hid (y_18.out.below hBw)
    have z_19 := Lib.hid (z_18.out.below hBw)
    have ww_19 := Lib.hid (ww_18.out.below hBw)
    have HB_19 := Lib.hid (below_trans HB_18.out hBw)
    clear hBw hb T_18 B_18 c_18 U_18 tw_18 x_18 y_18 z_18 ww_18 HB_18
    go_wp2
    go_ret
    exact ⟨rfl, HB_19.out⟩
  · go_wp2_with fail
    refine Calls.mono (lsolve U_13.out c_13.out (fun _ _ => by omega) (by omega) hs4) ?_
    rintro e w14 ⟨hb, hy⟩
    obtain ⟨v, y, rfl, _, _, hu, _⟩ | ⟨rfl, _⟩ := hy
    · exact absurd (by first | exact ⟨rfl, fun _ _ => rfl, _, (uniq_scaled hq0.out).1 hu⟩ | exact ⟨trivial, fun _ _ => trivial, _, (uniq_scaled hq0.out).1 hu⟩) hno

    have hBw := (show Below w13.heap.size w13 w14 from by first | exact hb | exact bundrew hb)
    have T_14 := Lib.hid (T_13.out.below hBw)
    have B_14 := Lib.hid (B_13.out.below hBw)
    have c_14 := Lib.hid (c_13.out.below hBw)
    have U_14 := Lib.hid (U_13.out.below hBw)
    have tw_14 := Lib.hid (tw_13.out.below hBw)
    have HB_14 := Lib.hid (below_trans HB_13.out hBw)
    clear hBw hb T_13 B_13 c_13 U_13 tw_13 HB_13
    go_wp2_with fail
    refine Calls.mono (lsolve (k := 4) (T_14.out.more (by omega)) tw_14.out.rowQ (fun _ _ => by omega) (by omega) hs4) ?_
    rintro e w15 ⟨hb, hz⟩
    obtain ⟨v, z, rfl, _, _, hu, _⟩ | ⟨rfl, _⟩ := hz
    · exact absurd (by first | exact ⟨rfl, fun _ _ => rfl, _, uniq_half hu⟩ | exact ⟨trivial, fun _ _ => trivial, _, uniq_half hu⟩) hno

    have hBw := (show Below w14.heap.size w14 w15 from by first | exact hb | exact bundrew hb)
    have T_15 := Lib.hid (T_14.out.below hBw)
    have B_15 := Lib.hid (B_14.out.below hBw)
    have c_15 := Lib.hid (c_14.out.below hBw)
    have U_15 := Lib.hid (U_14.out.below hBw)
    have tw_15 := Lib.hid (tw_14.out.below hBw)
    have HB_15 := Lib.hid (below_trans HB_14.out hBw)
    clear hBw hb T_14 B_14 c_14 U_14 tw_14 HB_14
    go_wp2_with fail
    refine Calls.mono (lawOf_is law_d1 _ (by omega) (by omega)) ?_
    rintro e w16 ⟨v, rfl, h, hb⟩
    obtain ⟨b16, A16, n16, c16, d16, B16, m16, k16, rfl, -, -, -, -, -⟩ := h.form
    have hE := EQ.of (p := true) h bq1
    have hBw := (show Below w15.heap.size w15 w16 from by first | exact hb | exact bundrew hb)
    have on_16 := Lib.hid (hE)
    have HB_16 := Lib.hid (below_trans HB_15.out hBw)
    clear hBw hb HB_15
    clear h hE
    go_wp2_with fail
    refine Calls.mono (raddTimes (p := true) (p' := true) (k := 1) (l := 1) (K := 4) (n := 0) (f := fun _ => 0) (g := fun _ => 0) rowT_nil.rowQ rowT_nil.rowQ on_16.out.2 (by omega) (by omega) (by omega) (by omega) (by omega) (by omega) (by omega)) ?_
    rintro e w17 ⟨v, rfl, h, hb⟩
    obtain ⟨EA, EC, rfl, _, _⟩ := h.rowQ.len
    have hBw := (show Below w16.heap.size w16 w17 from by first | exact hb | exact bundrew hb)
    have ww_17 := Lib.hid (h)
    have HB_17 := Lib.hid (below_trans HB_16.out hBw)
    clear hBw hb on_16 HB_16
    clear h
    go_wp2_with fail
    refine Calls.mono (rsame (k := 1) (l := 1) (n := 0) (f := fun _ => 0) (g := fun _ => 0) rowT_nil.rowQ rowT_nil.rowQ (fun _ _ => rfl) (by omega)) ?_
    rintro e w18 ⟨rfl, hb⟩
    have hBw := (show Below w17.heap.size w17 w18 from by first | exact hb | exact bundrew hb)
    have ww_18 := Lib.hid (ww_17.out.below hBw)
    have HB_18 := Lib.hid (below_trans HB_17.out hBw)
    clear hBw hb ww_17 HB_17
    go_wp2_with fail
    refine Calls.mono (rsame (k := 1) (l := 4) (n := 0) (f := fun _ => 0) rowT_nil.rowQ ww_18.out.rowQ (fun i hi => absurd hi (by omega)) (by omega)) ?_
    rintro e w19 ⟨rfl, hb⟩
    have hBw := (show Below w18.heap.size w18 w19 from by first | exact hb | exact bundrew hb)
    have ww_19 := Lib.hid (ww_18.out.below hBw)
    have HB_19 := Lib.hid (below_trans HB_18.out hBw)
    clear hBw hb ww_18 HB_18
    go_wp2
    go_ret
    exact ⟨rfl, HB_19.out⟩

theorem lin_scaled (A : Option Addr) (ca m : Nat) (Ln : Nat → Nat) (X : Nat → Nat → RatD) (F : Nat → Nat → Rat) (B : Option Addr) (cb mb : Nat) (Y : Nat → RatD) (h : Nat → Rat) (kn : Nat) (w : World) (ht : TabR w (.slice A m ca) m Ln X F) (hb : RowR w (.slice B mb cb) mb Y h) (hkn : kn < 256) :
    Calls Tryz.prog 9 #[.slice A m ca, .slice B mb cb, .int .u8 (kn : Nat)] w fun e w' => e = .returned (.bool true) ∧ Below w.heap.size w w' := by
  by_cases hne : m = mb
  · by_cases hL : ∀ i, i < m → Ln i = m
    · by_cases h0 : m = 0
      · exact scaled_c A ca m Ln X F B cb mb Y h kn w ht hb hkn hne hL h0
      · exact scaled_d A ca m Ln X F B cb mb Y h kn w ht hb hkn hne hL h0
    · exact scaled_b A ca m Ln X F B cb mb Y h kn w ht hb hkn hne hL
  · exact scaled_a A ca m Ln X F B cb mb Y h kn w ht hb hkn hne
end Go.Proofs.YtebdmidghidaeaaGreat
