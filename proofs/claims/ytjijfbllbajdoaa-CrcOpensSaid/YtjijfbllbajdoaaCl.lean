/- The walk of CrcOpens. -/
import Derived.Test.YtjijfbllbajdoaaCk
namespace Go.Proofs.Ytjijfbllbajdoaa
open Go.RowKit

theorem openB_congr {f g : Nat → Nat} {n : Nat} (h : ∀ j, j < n → f j = g j) : OpenB f n = OpenB g n := by
  unfold OpenB
  by_cases h4 : 4 ≤ n
  · rw [num_congr 4 (fun j hj => h j (by omega)), crcN_congr (f := fun j => f (4 + j)) (g := fun j => g (4 + j)) (fun j hj => h _ (by omega))]
  · simp [h4]
theorem openB_poke {f : Nat → Nat} {n k v : Nat} (hf : ∀ j, j < n → f j < 256) (hv : v < 256) (hk : k < 4 + n) :
    OpenB (upd (sealF (crcN f n) f) k (sealF (crcN f n) f k ^^^ v)) (4 + n) = decide (v = 0) := by
  by_cases h0 : v = 0
  · subst h0
    rw [openB_congr (g := sealF (crcN f n) f) fun j _ => by
      by_cases hj : j = k
      · subst hj; rw [upd_same, Nat.xor_zero]
      · rw [upd_ne _ _ _ hj], openB_seal hf]
    rfl
  · have hS := crcN_lt hf
    have hs4 : ∀ j, j < 4 → sealF (crcN f n) f j < 256 := fun j hj => by unfold sealF; rw [if_pos hj]; exact Nat.mod_lt _ (by decide)
    rw [decide_eq_false h0, openB_is (by omega), decide_eq_false_iff_not, Nat.add_sub_cancel_left]
    by_cases hk4 : k < 4
    · rw [num_poke hs4 hv hk4, num_seal hS]
      rw [crcN_congr (f := fun j => upd (sealF (crcN f n) f) k (sealF (crcN f n) f k ^^^ v) (4 + j)) (g := f) fun j _ => by
        show upd _ _ _ _ = _
        rw [upd_ne _ _ _ (by omega), seal_behind]]
      intro e
      have : v * 2 ^ (8 * k) = 0 := xor_cancel (a := crcN f n) (by rw [Nat.xor_zero]; exact e)
      have hp : 0 < 2 ^ (8 * k) := Nat.pow_pos (by decide)
      rcases Nat.mul_eq_zero.1 this with h | h
      · exact h0 h
      · omega
    · rw [num_upd _ _ (by omega), num_seal hS]
      intro e
      have e2 : crcN (fun j => upd (sealF (crcN f n) f) k (sealF (crcN f n) f k ^^^ v) (4 + j)) n = crcN (upd f (k - 4) (f (k - 4) ^^^ v)) n := crcN_congr fun j hj => by
        by_cases hj' : j = k - 4
        · have : 4 + j = k := by omega
          subst this
          show upd _ _ _ _ = _
          have e4 : 4 + j - 4 = j := by omega
          rw [upd_same, e4, upd_same, seal_behind]
        · show upd _ _ _ _ = _
          rw [upd_ne _ _ _ (by omega), upd_ne _ _ _ hj', seal_behind]
      rw [e2] at e
      have hq : k - 4 < n := by omega
      have hu : ∀ j, j < n → upd f (k - 4) (f (k - 4) ^^^ v) j < 256 := fun j hj => by
        by_cases h : j = k - 4
        · subst h; rw [upd_same]; exact byte_xor (hf _ hq) hv
        · rw [upd_ne _ _ _ h]; exact hf j hj
      exact h0 ((crcN_at hf hu (by omega) (by omega) (num_poke hf hv hq)).1 e.symm)

set_option maxHeartbeats 2000000 in
theorem crcOpens_out (A : Option Addr) (n c : Nat) (at' by' : Int) (w : World) (hn : 3000 < n) (hn2 : n ≤ 9223372036854775807) :
    Calls Try.prog 5 #[.slice A n c, .int .u16 at', .int .u8 by'] w fun e w' => e = .returned (.bool true) ∧ Below w.heap.size w w' := by
  go_enter Try.func5, Try.ntmps5
  go_wp2_with (go_at_call 8; refine (awake_any _).mono ?_; rintro e w1 ⟨rfl, hb1⟩)
  go_ret
  exact ⟨rfl, hb1⟩

set_option maxRecDepth 20000 in
set_option maxHeartbeats 2000000 in
theorem crcOpens_in (A : Option Addr) (n c : Nat) (f : Nat → Nat) (p v : Nat) (w : World) (hb : Byt w (.slice A n c) n f) (hA : A = none → n = 0 ∧ c = 0) (hn : n ≤ 3000) (hp : p < 65536) (hv : v < 256) :
    Calls Try.prog 5 #[.slice A n c, .int .u16 (p : Nat), .int .u8 (v : Nat)] w fun e w' => e = .returned (.bool true) ∧ Below w.heap.size w w' := by
  have HB := Lib.hid hb
  have HA := Lib.hid hA
  have HF := Lib.hid hb.lt
  have HOS := Lib.hid (openB_seal hb.lt)
  have HOP := Lib.hid (fun (k : Nat) (hk : k < 4 + n) => openB_poke (k := k) hb.lt hv hk)
  clear hb hA
  go_enter Try.func5, Try.ntmps5
  go_wp2_with fail
  refine (awake_any _).mono ?_
  rintro e w1 ⟨rfl, hb1⟩
  have HB1 := Lib.hid hb1
  clear hb1
  go_wp2_with fail
  obtain ⟨A', c', hv', hcc, hrr, hff⟩ := HB.out.below HB1.out
  injection hv' with hv1 hv2 hv3
  subst hv1 hv3
  refine (seal_any _ _ _ f _ hrr hff (by omega) HA.out).mono ?_
  clear hrr hff hcc hv2
  rintro e w2 ⟨vs, rfl, hs, hb2⟩
  have HB2 := Lib.hid (bbt HB1.out hb2)
  have HS2 := Lib.hid hs
  obtain ⟨As, cs, rfl, hcs, hrs, hfs⟩ := hs
  have hsf := hrs.some_ (by omega)
  obtain ⟨ad, rfl, _⟩ := hsf
  have HSB := Lib.hid (fun j => seal_behind (crcN f n) f j)
  generalize sealF (crcN f n) f = sf at *
  generalize hm : 4 + n = m at *
  have hmi : (m : Int) = n + 4 := by omega
  have hne : ((m : Int) != (n : Int) + 4) = false := by rw [bne_eq_false_iff_eq]; exact hmi
  have hkm : p % m < m := Nat.mod_lt _ (by omega)
  have hk0 : (p : Int) % (m : Int) = ((p % m : Nat) : Int) := (Int.natCast_emod p m).symm
  have hpm : m ≤ 3004 := by omega
  have hpm0 : 0 < m := by omega
  generalize p % m = k at *
  have hbn := below_new w2 (.cells #[] 5)
  have HRD := Lib.hid (hrs.below hbn)
  have HFS := Lib.hid hfs
  have hown := own_none8 w2 sf
  have HM := Lib.hid hm
  clear hb2 hrs hfs hbn hm hmi
  go_wp2_with (
      at_builtin
      refine wpList_app rfl _ _ 22 rfl .u8 5 Try.underlying22 1 u8_info (by omega) w2.heap.size _ 0 sf rfl hown (some ad) m cs sf rfl HRD.out (fun h => by cases h) (by omega) (by simp) ?_
      intro v2 w5 hown2 hb2 hsz2
      rw [Nat.zero_add] at hown2
      have hown3 : Own .u8 5 w5 w2.heap.size v2 m sf := hown2.congr fun j _ => by simp [appF]
      have HB5 := Lib.hid (bbt HB2.out ((below_new w2 (.cells #[] 5)).trans hb2))
      rcases hown3.form with ⟨_, h0⟩ | ⟨g, c2, rfl, hg, hc2⟩
      · omega
      have hcell := hown3.rd_.at_ hkm
      rw [add_mk, Nat.zero_add] at hcell
      have hfz := hown3.frozen k
      have hsk := HFS.out k hkm
      have hown6 := hown3.set_ k (sf k ^^^ v)
      have hop := HOP.out k hkm
      have hlt6 : ∀ j, j < m → upd sf k (sf k ^^^ v) j < 256 := fun j hj => by
        by_cases h : j = k
        · subst h; rw [upd_same]; exact byte_xor hsk hv
        · rw [upd_ne _ _ _ h]; exact HFS.out j hj
      have HB6 := Lib.hid (HB5.out.setCell (p := ⟨g, k, none⟩) (Nat.le_trans HB2.out.size hg) (.int .u8 ((sf k ^^^ v : Nat) : Int)))
      have HS6 := Lib.hid (HS2.out.below ((((below_new w2 (.cells #[] 5)).trans hb2)).setCell (p := ⟨g, k, none⟩) hg (.int .u8 ((sf k ^^^ v : Nat) : Int))))
      have HOW6 := Lib.hid (own_byt hown6 hlt6)
      have hx := u8_xor_nat (sf k) v hsk hv
      have HHOP := Lib.hid hop
      have hkm1 : (k : Int) < (m : Int) := by omega
      clear hown2 hown3 hown hb2 hsz2 hown6 hlt6 hop
      generalize upd sf k (sf k ^^^ v) = F6 at *
      generalize sf k = x at *
      generalize x ^^^ v = x6 at *)
  clear hk0 hkm1 hfz hcell hx
  obtain ⟨b0, hb0⟩ : ∃ b0, b0 = decide (v = 0) := ⟨_, rfl⟩
  have hv0 : ((v : Int) == 0) = b0 := by
    rw [hb0]
    by_cases h : v = 0
    · rw [decide_eq_true h, h]; rfl
    · rw [decide_eq_false h, beq_eq_false_iff_ne]; omega
  have HHQ := Lib.hid (HHOP.out.trans hb0.symm)
  clear hb0
  refine (open_b HOW6.out (by omega)).mono ?_
  intro e w6 h
  obtain ⟨vx, rfl, _, hb6⟩ := h.two
  rw [HHQ.out]
  have HS7 := Lib.hid (HS6.out.below hb6)
  have HB7 := Lib.hid (bbt HB6.out hb6)
  clear h hb6
  go_wp2_with fail
  refine (open_b HS7.out (by omega)).mono ?_
  intro e w7 h
  obtain ⟨vz, rfl, hz, hb7⟩ := h.yes HOS.out
  have HZ := Lib.hid hz
  have HB8 := Lib.hid (bbt HB7.out hb7)
  clear h hz hb7
  go_wp2_with fail
  refine (rows_b (HZ.out.cast (m := n) (g := f) (by have := HM.out; omega) fun j _ => HSB.out j) (HB.out.below HB8.out) (by omega) (fun _ _ => rfl)).mono ?_
  rintro e w8 ⟨rfl, hb8⟩
  have HB9 := Lib.hid (bbt HB8.out hb8)
  clear hb8
  go_wp2
  go_ret
  exact ⟨rfl, HB9.out⟩
end Go.Proofs.Ytjijfbllbajdoaa
