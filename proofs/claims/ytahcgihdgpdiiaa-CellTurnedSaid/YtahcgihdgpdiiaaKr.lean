/- The walk of CellTurned. -/
import Derived.Test.YtahcgihdgpdiiaaKq
namespace Go.Proofs.Ytahcgihdgpdiiaa
open Go.RowKit
set_option linter.unusedSimpArgs false
set_option linter.unusedVariables false

theorem openB_congr {f g : Nat → Nat} {n : Nat} (h : ∀ j, j < n → f j = g j) : OpenB f n = OpenB g n := by
  unfold OpenB
  by_cases h4 : 4 ≤ n
  · rw [num_congr 4 (fun j hj => h j (by omega)), crcN_congr (f := fun j => f (4 + j)) (g := fun j => g (4 + j)) (fun j hj => h _ (by omega))]
  · simp [h4]
theorem openB_poke {f : Nat → Nat} {n k v : Nat} (hf : ∀ j, j < n → f j < 256) (hv : v < 256) (hk : k < 4 + n) :
    OpenB (upd (sealF (crcN f n) f) k (sealF (crcN f n) f k ^^^ v)) (4 + n) = decide (v = 0) := by
  by_cases h0 : v = 0
  · subst h0
    rw [openB_congr (g := sealF (crcN f n) f) fun j _ => by
      by_cases hj : j = k
      · subst hj; rw [upd_same, Nat.xor_zero]
      · rw [upd_ne _ _ _ hj], openB_seal hf]
    rfl
  · have hS := crcN_lt hf
    have hs4 : ∀ j, j < 4 → sealF (crcN f n) f j < 256 := fun j hj => by unfold sealF; rw [if_pos hj]; exact Nat.mod_lt _ (by decide)
    rw [decide_eq_false h0, openB_is (by omega), decide_eq_false_iff_not, Nat.add_sub_cancel_left]
    by_cases hk4 : k < 4
    · rw [num_poke hs4 hv hk4, num_seal hS]
      rw [crcN_congr (f := fun j => upd (sealF (crcN f n) f) k (sealF (crcN f n) f k ^^^ v) (4 + j)) (g := f) fun j _ => by
        show upd _ _ _ _ = _
        rw [upd_ne _ _ _ (by omega), seal_behind]]
      intro e
      have : v * 2 ^ (8 * k) = 0 := xor_cancel (a := crcN f n) (by rw [Nat.xor_zero]; exact e)
      have hp : 0 < 2 ^ (8 * k) := Nat.pow_pos (by decide)
      rcases Nat.mul_eq_zero.1 this with h | h
      · exact h0 h
      · omega
    · rw [num_upd _ _ (by omega), num_seal hS]
      intro e
      have e2 : crcN (fun j => upd (sealF (crcN f n) f) k (sealF (crcN f n) f k ^^^ v) (4 + j)) n = crcN (upd f (k - 4) (f (k - 4) ^^^ v)) n := crcN_congr fun j hj => by
        by_cases hj' : j = k - 4
        · have : 4 + j = k := by omega
          subst this
          show upd _ _ _ _ = _
          have e4 : 4 + j - 4 = j := by omega
          rw [upd_same, e4, upd_same, seal_behind]
        · show upd _ _ _ _ = _
          rw [upd_ne _ _ _ (by omega), upd_ne _ _ _ hj', seal_behind]
      rw [e2] at e
      have hq : k - 4 < n := by omega
      have hu : ∀ j, j < n → upd f (k - 4) (f (k - 4) ^^^ v) j < 256 := fun j hj => by
        by_cases h : j = k - 4
        · subst h; rw [upd_same]; exact byte_xor (hf _ hq) hv
        · rw [upd_ne _ _ _ h]; exact hf j hj
      exact h0 ((crcN_at hf hu (by omega) (by omega) (num_poke hf hv hq)).1 e.symm)


def TurnedPost (w w' : World) (e : Ending) : Prop := e = .returned (.bool true) ∧ Below w.heap.size w w'
theorem BoxH.set1 {u : World} {b g s : Nat} {p q : Int} {A : Option Addr} {n c : Nat} (h : BoxH u b g s p q A n c) (s' : Nat) : BoxH (u.setCell ⟨b, 1, none⟩ (.int .u32 (s' : Nat))) b g s' p q A n c := by
  unfold BoxH at *
  simp [World.setCell, Array.getElem?_modify, h]
/-- A sector of which a byte is turned is one just if nothing is turned. -/
theorem poke_dec {g s p q n k b : Nat} {f : Nat → Nat} (hp : p < 256) (hq : q < 256) (hn : n < 256) (hf : ∀ j, j < n → f j < 256) (hb : b < 256) (hk : k < 64) (h0 : b ≠ 0) : ¬ decP 64 (upd (sectF g s p q n f) k (sectF g s p q n f k ^^^ b)) := fun h => by
  have h1 := openB_poke (f := bodyF g s p q n f) (n := 60) (k := k) (v := b) (bodyF_lt hp hq hn hf) hb (by omega)
  rw [decide_eq_false h0] at h1
  have h2 := h.2.1
  unfold sectF at h2
  rw [show 64 = 4 + 60 from rfl] at h2
  rw [h2] at h1
  cases h1
theorem poke_same {F : Nat → Nat} {k b : Nat} (h0 : b = 0) : upd F k (F k ^^^ b) = F := by
  subst h0
  funext j
  by_cases h : j = k
  · subst h; rw [upd_same, Nat.xor_zero]
  · rw [upd_ne _ _ _ h]
theorem sect_lt {g s p q n : Nat} {f : Nat → Nat} (hp : p < 256) (hq : q < 256) (hn : n < 256) (hf : ∀ j, j < n → f j < 256) : ∀ j, j < 64 → sectF g s p q n f j < 256 := sealF_lt (n := 60) (bodyF_lt hp hq hn hf)
theorem sect_unlike {g s s' p q n : Nat} {f : Nat → Nat} (hg : g < 4294967296) (hs : s < 4294967296) (hs' : s' < 4294967296) (hm : mayP (p : Nat) (q : Nat) n) (hf : ∀ j, j < n → f j < 256) (hne : s ≠ s') : ¬ ∀ j, j < 64 → sectF g s p q n f j = sectF g s' p q n f j := fun h => by
  have h1 := (sect_dec hg hs hm hf).2.2.1
  have h2 := (sect_dec hg hs' hm hf).2.2.1
  rw [num_congr 4 (fun j hj => h (8 + j) (by omega)), h2] at h1
  exact hne h1.symm
theorem upd_lt {F : Nat → Nat} {m k v : Nat} (h : ∀ j, j < m → F j < 256) (hv : v < 256) : ∀ j, j < m → upd F k v j < 256 := fun j hj => by
  by_cases e : j = k
  · subst e; rw [upd_same]; exact hv
  · rw [upd_ne _ _ _ e]; exact h j hj
def step32 (s : Nat) : Nat := (s + 1) % 4294967296

set_option maxRecDepth 20000 in
set_option maxHeartbeats 4000000 in
theorem turned_no (g s : Nat) (p q : Int) (A : Option Addr) (n c t b : Nat) (w : World) (hn : n ≤ 9223372036854775807) (hg : g < 4294967296) (hs : s < 4294967296) (hm : ¬ mayP p q n) :
    Calls Try.prog 6 #[cellV g s p q A n c, .int .u8 (t : Nat), .int .u8 (b : Nat)] w fun e w' => TurnedPost w w' e := by
  have HX0 := Lib.hid (BoxC.new w g s p q A n c)
  have HB0 := Lib.hid (below_new w (.cells #[.int .u32 (g : Nat), .int .u32 (s : Nat), .int .i64 p, .int .i64 q, .slice A n c] 25))
  have HM := Lib.hid hm
  clear hm
  go_enter Try.func6, Try.ntmps6
  go_wp2_with (first
    | (go_at_call 10; refine (awake_any _).mono ?_; rintro e w1 ⟨rfl, hb1⟩; have HX1 := Lib.hid (HX0.out.below hb1); have HB1 := Lib.hid (bbt HB0.out hb1); clear hb1; obtain ⟨x0, x1, x2, x3, x4⟩ := HX1.out; have hxl := HX1.out.lt)
    | (go_at_call 11; refine Calls.mono (encode_no g s p q A n c _ hn HM.out) ?_; rintro e w2 ⟨rfl, hb2⟩; have HX2 := Lib.hid (HX1.out.below hb2); have HB2 := Lib.hid (bbt HB1.out hb2); clear hb2 x0 x1 x2 x3 x4 hxl; obtain ⟨x0, x1, x2, x3, x4⟩ := HX2.out; have hxl := HX2.out.lt)
    | (go_at_call 17; refine Calls.mono (may_any g s p q A n c _ hn) ?_; rintro e w3 ⟨rfl, hb3⟩; rw [decide_eq_false HM.out]; have HB3 := Lib.hid (bbt HB2.out hb3); clear hb3))
  go_ret
  exact ⟨rfl, HB3.out⟩

set_option maxRecDepth 20000 in
set_option maxHeartbeats 8000000 in
theorem turned_same (g s p q : Nat) (A : Option Addr) (n c t b : Nat) (f : Nat → Nat) (w : World) (hg : g < 4294967296) (hs : s < 4294967296) (ht : t < 256) (hb : b < 256) (h0 : b = 0) (hr : Rd .u8 w A n f) (hf : ∀ j, j < n → f j < 256) (hm : mayP (p : Nat) (q : Nat) n) :
    Calls Try.prog 6 #[cellV g s (p : Nat) (q : Nat) A n c, .int .u8 (t : Nat), .int .u8 (b : Nat)] w fun e w' => TurnedPost w w' e := by
  have hm2 := hm
  unfold mayP at hm2
  have hpq : p < 256 ∧ q < 256 ∧ n < 256 := by omega
  clear hm2
  have HX0 := Lib.hid (BoxC.new w g s (p : Nat) (q : Nat) A n c)
  have HB0 := Lib.hid (below_new w (.cells #[.int .u32 (g : Nat), .int .u32 (s : Nat), .int .i64 (p : Nat), .int .i64 (q : Nat), .slice A n c] 25))
  have HM := Lib.hid hm
  have HR := Lib.hid hr
  have HF := Lib.hid hf
  have hs1 : step32 s < 4294967296 := Nat.mod_lt _ (by decide)
  have hss : s ≠ step32 s := by unfold step32; omega
  have hsI : ((s : Int) + 1) % 4294967296 = ((step32 s : Nat) : Int) := by unfold step32; omega
  have HU := Lib.hid (sect_unlike (f := f) hg hs hs1 hm hf hss)
  have HLT := Lib.hid (sect_lt (g := g) (s := s) hpq.1 hpq.2.1 hpq.2.2 hf)
  have hkm : t % 64 < 64 := Nat.mod_lt _ (by decide)
  have hk0 : (t : Int) % 64 = ((t % 64 : Nat) : Int) := by omega
  have hb0 : ((b : Int) == 0) = true := by rw [beq_iff_eq]; omega
  have HB00 := Lib.hid h0
  clear h0
  generalize t % 64 = k at *
  generalize hS' : step32 s = s' at *
  have HSI := Lib.hid hsI
  have HK0 := Lib.hid (show _ ∧ k < 64 from ⟨hk0, hkm⟩)
  clear hS' hm hr hf hss hsI hk0 hkm hpq
  have tok1 : True := trivial
  go_enter Try.func6, Try.ntmps6
  go_wp2_with (first
    | (go_at_call 10; refine (awake_any _).mono ?_; rintro e w1 ⟨rfl, hb1⟩; have HX1 := Lib.hid (HX0.out.below hb1); have HB1 := Lib.hid (bbt HB0.out hb1); clear hb1; obtain ⟨x0, x1, x2, x3, x4⟩ := HX1.out; have hxl := HX1.out.lt)
    | (go_at_call 11; have _t := HB9; clear _t; refine Calls.mono (encode_yes g s' p q A n c f _ hg hs1 (HR.out.below HB9.out) HF.out HM.out) ?_; rintro e w10 ⟨⟨v10, rfl, hv10⟩, hb10⟩; have HV10 := Lib.hid hv10; have HS10 := Lib.hid (HS9.out.below hb10); have HB10 := Lib.hid (bbt HB9.out hb10); clear hv10 hb10)
    | (go_at_call 11; have _t := tok1; clear _t tok1; refine Calls.mono (encode_yes g s p q A n c f _ hg hs (HR.out.below HB1.out) HF.out HM.out) ?_; rintro e w2 ⟨⟨v2, rfl, hv2⟩, hb2⟩; have HS2 := Lib.hid hv2; obtain ⟨a2, c2, rfl, hcc2, hrr2, hff2⟩ := hv2; obtain ⟨a2, rfl, _⟩ := hrr2.some_ (by omega); have HX2 := Lib.hid (HX1.out.below hb2); have HB2 := Lib.hid (bbt HB1.out hb2); have hbn := below_new w2 (.cells #[] 5); have HRD := Lib.hid (hrr2.below hbn); have hown := own_none8 w2 (sectF g s p q n f); clear hbn hff2 hrr2 hb2 x0 x1 x2 x3 x4 hxl)
    | (at_builtin; refine wpList_app rfl _ _ 23 rfl .u8 5 Try.underlying23 1 u8_info (by omega) w2.heap.size _ 0 (sectF g s p q n f) rfl hown (some a2) 64 c2 (sectF g s p q n f) rfl HRD.out (fun h => by cases h) (by omega) (by simp) ?_; intro v5 w5 hown2 hb5 hsz5; rw [Nat.zero_add] at hown2; have hown3 : Own .u8 5 w5 w2.heap.size v5 64 (sectF g s p q n f) := hown2.congr fun j _ => (by simp [appF]); have hb25 := (below_new w2 (.cells #[] 5)).trans hb5; obtain ⟨g5, c5, rfl, hg5, hc5⟩ : ∃ g5 c5, v5 = .slice (some ⟨g5, 0, none⟩) 64 c5 ∧ w2.heap.size ≤ g5 ∧ 64 ≤ c5 := (by rcases hown3.form with ⟨_, h0⟩ | h; (· omega); (· exact h)); obtain ⟨hk0, hkm⟩ := HK0.out; have hcell := hown3.rd_.at_ hkm; rw [add_mk, Nat.zero_add] at hcell; have hfz := hown3.frozen k; have hsk := HLT.out k hkm; have hown6 := hown3.set_ k (sectF g s p q n f k ^^^ b); have HOW6 := Lib.hid hown6; have hb26 := hb25.setCell (p := ⟨g5, k, none⟩) hg5 (.int .u8 ((sectF g s p q n f k ^^^ b : Nat) : Int)); have HB6 := Lib.hid (bbt HB2.out hb26); have HS6 := Lib.hid (HS2.out.below hb26); have HX6 := Lib.hid (HX2.out.below hb26); have hx := u8_xor_nat (sectF g s p q n f k) b hsk (by omega); have HLT6 := Lib.hid (upd_lt HLT.out (k := k) (byte_xor hsk (show b < 256 by omega))); have HEQ := Lib.hid (poke_same (F := sectF g s p q n f) (k := k) HB00.out);  have hkm1 : (k : Int) < 64 := (by omega); clear hown hown2 hown3 hown6 hb5 hsz5 hb25 hb26; generalize sectF g s p q n f k = x at *; generalize hx6 : x ^^^ b = x6 at *; clear hx6)
    | (go_at_call 13; refine Calls.mono (decode_i (g := (g : Nat)) (s := (s : Nat)) (p := (p : Nat)) (q := (q : Nat)) (n := n) (f := f) ⟨by omega, by omega⟩ ⟨by omega, by omega⟩ HM.out HF.out (by have h := own_byt HOW6.out HLT6.out; rw [HEQ.out] at h; exact h)) ?_; rintro e w7 ⟨⟨B7, c7, rfl, hv7⟩, hb7⟩; have HX7 := Lib.hid ((HX6.out.below hb7).below (below_new _ (.cells #[.int .u32 (g : Nat), .int .u32 (s : Nat), .int .i64 (p : Nat), .int .i64 (q : Nat), .slice B7 n c7] 25))); have HS7 := Lib.hid (HS6.out.below hb7); have HB7 := Lib.hid (bbt HB6.out hb7); clear hv7; clear hb7 hk0 hkm hkm1 hcell hfz hx; obtain ⟨x0, x1, x2, x3, x4⟩ := HX7.out; have hxl := HX7.out.lt; have hsI := HSI.out; have x1b := (HX7.out.below (below_new _ (.cells #[.int .u32 (g : Nat), .int .u32 (s : Nat), .int .i64 (p : Nat), .int .i64 (q : Nat), .slice A n c] 25))).2.1; have HB9 := Lib.hid (bbt (bbt HB7.out (below_new _ (.cells #[.int .u32 (g : Nat), .int .u32 (s : Nat), .int .i64 (p : Nat), .int .i64 (q : Nat), .slice B7 n c7] 25))) (below_new _ (.cells #[.int .u32 (g : Nat), .int .u32 (s' : Nat), .int .i64 (p : Nat), .int .i64 (q : Nat), .slice A n c] 25))); have HS9 := Lib.hid ((HS7.out.below (below_new _ (.cells #[.int .u32 (g : Nat), .int .u32 (s : Nat), .int .i64 (p : Nat), .int .i64 (q : Nat), .slice B7 n c7] 25))).below (below_new _ (.cells #[.int .u32 (g : Nat), .int .u32 (s' : Nat), .int .i64 (p : Nat), .int .i64 (q : Nat), .slice A n c] 25))))
    | (go_at_call 15; refine Calls.mono (rows_by HS10.out HV10.out (by omega) (by omega)) ?_; rintro e w11 ⟨⟨b1, rfl, hb1⟩, hb11⟩; obtain rfl : b1 = false := Bool.eq_false_iff.2 fun h => HU.out (hb1.1 h).2; have HB11 := Lib.hid (bbt HB10.out hb11); clear hb1 hb11))
  go_ret
  exact ⟨rfl, HB11.out⟩

set_option maxRecDepth 20000 in
set_option maxHeartbeats 8000000 in
theorem turned_other (g s p q : Nat) (A : Option Addr) (n c t b : Nat) (f : Nat → Nat) (w : World) (hg : g < 4294967296) (hs : s < 4294967296) (ht : t < 256) (hb : b < 256) (h0 : b ≠ 0) (hr : Rd .u8 w A n f) (hf : ∀ j, j < n → f j < 256) (hm : mayP (p : Nat) (q : Nat) n) :
    Calls Try.prog 6 #[cellV g s (p : Nat) (q : Nat) A n c, .int .u8 (t : Nat), .int .u8 (b : Nat)] w fun e w' => TurnedPost w w' e := by
  have hm2 := hm
  unfold mayP at hm2
  have hpq : p < 256 ∧ q < 256 ∧ n < 256 := by omega
  clear hm2
  have HX0 := Lib.hid (BoxC.new w g s (p : Nat) (q : Nat) A n c)
  have HB0 := Lib.hid (below_new w (.cells #[.int .u32 (g : Nat), .int .u32 (s : Nat), .int .i64 (p : Nat), .int .i64 (q : Nat), .slice A n c] 25))
  have HM := Lib.hid hm
  have HR := Lib.hid hr
  have HF := Lib.hid hf
  have hs1 : step32 s < 4294967296 := Nat.mod_lt _ (by decide)
  have hss : s ≠ step32 s := by unfold step32; omega
  have hsI : ((s : Int) + 1) % 4294967296 = ((step32 s : Nat) : Int) := by unfold step32; omega
  have HU := Lib.hid (sect_unlike (f := f) hg hs hs1 hm hf hss)
  have HLT := Lib.hid (sect_lt (g := g) (s := s) hpq.1 hpq.2.1 hpq.2.2 hf)
  have hkm : t % 64 < 64 := Nat.mod_lt _ (by decide)
  have hk0 : (t : Int) % 64 = ((t % 64 : Nat) : Int) := by omega
  have HND := Lib.hid (poke_dec (g := g) (s := s) (k := t % 64) hpq.1 hpq.2.1 hpq.2.2 hf hb hkm h0)
  have hb0 : ((b : Int) == 0) = false := by rw [beq_eq_false_iff_ne]; omega
  generalize t % 64 = k at *
  generalize hS' : step32 s = s' at *
  have HSI := Lib.hid hsI
  have HK0 := Lib.hid (show _ ∧ k < 64 from ⟨hk0, hkm⟩)
  clear hS' hm hr hf hss hsI hk0 hkm hpq
  have tok1 : True := trivial
  go_enter Try.func6, Try.ntmps6
  go_wp2_with (first
    | (go_at_call 10; refine (awake_any _).mono ?_; rintro e w1 ⟨rfl, hb1⟩; have HX1 := Lib.hid (HX0.out.below hb1); have HB1 := Lib.hid (bbt HB0.out hb1); clear hb1; obtain ⟨x0, x1, x2, x3, x4⟩ := HX1.out; have hxl := HX1.out.lt)
    | (go_at_call 11; have _t := HB9; clear _t; refine Calls.mono (encode_yes g s' p q A n c f _ hg hs1 (HR.out.below HB9.out) HF.out HM.out) ?_; rintro e w10 ⟨⟨v10, rfl, hv10⟩, hb10⟩; have HV10 := Lib.hid hv10; have HS10 := Lib.hid (HS9.out.below hb10); have HB10 := Lib.hid (bbt HB9.out hb10); clear hv10 hb10)
    | (go_at_call 11; have _t := tok1; clear _t tok1; refine Calls.mono (encode_yes g s p q A n c f _ hg hs (HR.out.below HB1.out) HF.out HM.out) ?_; rintro e w2 ⟨⟨v2, rfl, hv2⟩, hb2⟩; have HS2 := Lib.hid hv2; obtain ⟨a2, c2, rfl, hcc2, hrr2, hff2⟩ := hv2; obtain ⟨a2, rfl, _⟩ := hrr2.some_ (by omega); have HX2 := Lib.hid (HX1.out.below hb2); have HB2 := Lib.hid (bbt HB1.out hb2); have hbn := below_new w2 (.cells #[] 5); have HRD := Lib.hid (hrr2.below hbn); have hown := own_none8 w2 (sectF g s p q n f); clear hbn hff2 hrr2 hb2 x0 x1 x2 x3 x4 hxl)
    | (at_builtin; refine wpList_app rfl _ _ 23 rfl .u8 5 Try.underlying23 1 u8_info (by omega) w2.heap.size _ 0 (sectF g s p q n f) rfl hown (some a2) 64 c2 (sectF g s p q n f) rfl HRD.out (fun h => by cases h) (by omega) (by simp) ?_; intro v5 w5 hown2 hb5 hsz5; rw [Nat.zero_add] at hown2; have hown3 : Own .u8 5 w5 w2.heap.size v5 64 (sectF g s p q n f) := hown2.congr fun j _ => (by simp [appF]); have hb25 := (below_new w2 (.cells #[] 5)).trans hb5; obtain ⟨g5, c5, rfl, hg5, hc5⟩ : ∃ g5 c5, v5 = .slice (some ⟨g5, 0, none⟩) 64 c5 ∧ w2.heap.size ≤ g5 ∧ 64 ≤ c5 := (by rcases hown3.form with ⟨_, h0⟩ | h; (· omega); (· exact h)); obtain ⟨hk0, hkm⟩ := HK0.out; have hcell := hown3.rd_.at_ hkm; rw [add_mk, Nat.zero_add] at hcell; have hfz := hown3.frozen k; have hsk := HLT.out k hkm; have hown6 := hown3.set_ k (sectF g s p q n f k ^^^ b); have HOW6 := Lib.hid hown6; have hb26 := hb25.setCell (p := ⟨g5, k, none⟩) hg5 (.int .u8 ((sectF g s p q n f k ^^^ b : Nat) : Int)); have HB6 := Lib.hid (bbt HB2.out hb26); have HS6 := Lib.hid (HS2.out.below hb26); have HX6 := Lib.hid (HX2.out.below hb26); have hx := u8_xor_nat (sectF g s p q n f k) b hsk (by omega); have HLT6 := Lib.hid (upd_lt HLT.out (k := k) (byte_xor hsk (show b < 256 by omega)));  have hkm1 : (k : Int) < 64 := (by omega); clear hown hown2 hown3 hown6 hb5 hsz5 hb25 hb26; generalize sectF g s p q n f k = x at *; generalize hx6 : x ^^^ b = x6 at *; clear hx6)
    | (go_at_call 13; refine Calls.mono (decode_ino (own_byt HOW6.out HLT6.out) (by omega) HND.out) ?_; rintro e w7 ⟨rfl, hb7⟩; have HX7 := Lib.hid ((HX6.out.below hb7).below (below_new _ (.cells #[.int .u32 0, .int .u32 0, .int .i64 0, .int .i64 0, .slice none 0 0] 25))); have HS7 := Lib.hid (HS6.out.below hb7); have HB7 := Lib.hid (bbt HB6.out hb7); clear hb7 hk0 hkm hkm1 hcell hfz hx; obtain ⟨x0, x1, x2, x3, x4⟩ := HX7.out; have hxl := HX7.out.lt; have hsI := HSI.out; have x1b := (HX7.out.below (below_new _ (.cells #[.int .u32 (g : Nat), .int .u32 (s : Nat), .int .i64 (p : Nat), .int .i64 (q : Nat), .slice A n c] 25))).2.1; have HB9 := Lib.hid (bbt (bbt HB7.out (below_new _ (.cells #[.int .u32 0, .int .u32 0, .int .i64 0, .int .i64 0, .slice none 0 0] 25))) (below_new _ (.cells #[.int .u32 (g : Nat), .int .u32 (s' : Nat), .int .i64 (p : Nat), .int .i64 (q : Nat), .slice A n c] 25))); have HS9 := Lib.hid ((HS7.out.below (below_new _ (.cells #[.int .u32 0, .int .u32 0, .int .i64 0, .int .i64 0, .slice none 0 0] 25))).below (below_new _ (.cells #[.int .u32 (g : Nat), .int .u32 (s' : Nat), .int .i64 (p : Nat), .int .i64 (q : Nat), .slice A n c] 25))))
    | (go_at_call 15; refine Calls.mono (rows_by HS10.out HV10.out (by omega) (by omega)) ?_; rintro e w11 ⟨⟨b1, rfl, hb1⟩, hb11⟩; obtain rfl : b1 = false := Bool.eq_false_iff.2 fun h => HU.out (hb1.1 h).2; have HB11 := Lib.hid (bbt HB10.out hb11); clear hb1 hb11))
  go_ret
  exact ⟨rfl, HB11.out⟩
theorem turned_any (x : CellD) (t b : Nat) (w : World) (ht : t < 256) (hb : b < 256) (hr : Rd .u8 w x.A x.n x.f) (hx : x.good) :
    Calls Try.prog 6 #[x.val, .int .u8 (t : Nat), .int .u8 (b : Nat)] w fun e w' => TurnedPost w w' e := by
  obtain ⟨g, s, p, q, A, n, c, f⟩ := x
  obtain ⟨h1, h2, _, _, _, _, h3, h4, h5, h6⟩ := hx
  by_cases hm : mayP p q n
  · have hm2 := hm
    unfold mayP at hm2
    obtain ⟨p, rfl⟩ : ∃ k : Nat, p = k := ⟨p.toNat, by omega⟩
    obtain ⟨q, rfl⟩ : ∃ k : Nat, q = k := ⟨q.toNat, by omega⟩
    by_cases h0 : b = 0
    · exact turned_same g s p q A n c t b f w h1 h2 ht hb h0 hr h5 hm
    · exact turned_other g s p q A n c t b f w h1 h2 ht hb h0 hr h5 hm
  · exact turned_no g s p q A n c t b w h4 h1 h2 hm
end Go.Proofs.Ytahcgihdgpdiiaa
