/- The contracts in the words of bytes; the walk of CrcSums. -/
import Derived.Test.YtjijfbllbajdoaaCi
namespace Go.Proofs.Ytjijfbllbajdoaa
open Go.RowKit

theorem bbt {w0 w1 w2 : World} (h : Below w0.heap.size w0 w1) (h2 : Below w1.heap.size w1 w2) : Below w0.heap.size w0 w2 := h.trans (h2.mono h.size)
theorem Byt.drew {w : World} {v : Value} {n : Nat} {f : Nat → Nat} (h : Byt w v n f) : Byt w.drew v n f := h
theorem Byt.cast {w : World} {v : Value} {n m : Nat} {f g : Nat → Nat} (h : Byt w v n f) (hn : n = m) (he : ∀ j, j < n → f j = g j) : Byt w v m g := by
  obtain ⟨A, c, h1, h2, h3, h4⟩ := h
  subst hn
  exact ⟨A, c, h1, h2, h3.congr he, fun j hj => by rw [← he j hj]; exact h4 j hj⟩
theorem Byt.lt {w : World} {v : Value} {n : Nat} {f : Nat → Nat} (h : Byt w v n f) : ∀ j, j < n → f j < 256 := by
  obtain ⟨A, c, h1, h2, h3, h4⟩ := h
  exact h4
section
variable {w : World} {v v1 v2 : Value} {n : Nat} {f g : Nat → Nat}
theorem sum_b (h : Byt w v n f) (hn : n ≤ 1000000) : Calls Try.prog 12 #[v] w fun e w' => e = .returned (.int .u32 (crcN f n : Nat)) ∧ Below w.heap.size w w' := by
  obtain ⟨A, c, rfl, h2, h3, h4⟩ := h
  exact sum_any A n c f w h3 h4 (by omega)
theorem rsum_b (h : Byt w v n f) (hn : n ≤ 1000000) : Calls Try.prog 13 #[v] w fun e w' => e = .returned (.int .u32 (crcN f n : Nat)) ∧ w = w' := by
  obtain ⟨A, c, rfl, h2, h3, h4⟩ := h
  exact rsum_any A n c f w h3 h4 (by omega)
theorem open_b (h : Byt w v n f) (hn : n ≤ 1000000) : Calls Try.prog 9 #[v] w fun e w' => OpenPost w w' e n f := by
  obtain ⟨A, c, rfl, h2, h3, h4⟩ := h
  exact open_any A n c f w h3 h4 hn h2
theorem ropen_b (h : Byt w v n f) (hn : n ≤ 1000000) : Calls Try.prog 10 #[v] w fun e w' => OpenPost w w' e n f := by
  obtain ⟨A, c, rfl, h2, h3, h4⟩ := h
  exact ropen_any A n c f w h3 h4 hn h2
theorem rows_b (h1 : Byt w v1 n f) (h2 : Byt w v2 n g) (hn : n ≤ 1000000) (he : ∀ j, j < n → f j = g j) :
    Calls Try.prog 14 #[v1, v2] w fun e w' => e = .returned (.bool true) ∧ Below w.heap.size w w' := by
  obtain ⟨A, c, rfl, _, a1, _⟩ := h1
  obtain ⟨B, d, rfl, _, b1, _⟩ := h2
  exact rows_true A n c f B d g w a1 b1 (by omega) he
theorem OpenPost.yes {w' : World} {e : Ending} (h : OpenPost w w' e n f) (ho : OpenB f n = true) : OpenYes w w' e n f := by
  rcases h with ⟨_, h⟩ | ⟨h, _⟩
  · exact h
  · rw [ho] at h; cases h
theorem OpenPost.no {w' : World} {e : Ending} (h : OpenPost w w' e n f) (ho : OpenB f n = false) : OpenNo w w' e := by
  rcases h with ⟨h, _⟩ | ⟨_, h⟩
  · rw [ho] at h; cases h
  · exact h
theorem byt_none : Byt w (.slice none 0 0) 0 f := ⟨none, 0, rfl, Nat.le_refl _, Rd.zero, fun j hj => absurd hj (by omega)⟩
/-- What Open says: bytes, and whether. -/
def OpenTwo (w w' : World) (e : Ending) (n : Nat) (f : Nat → Nat) : Prop := ∃ v, e = .returned (.tuple #[v, .bool (OpenB f n)]) ∧ Byt w' v (if OpenB f n then n - 4 else 0) (fun j => f (4 + j)) ∧ Below w.heap.size w w'
theorem OpenPost.two {w' : World} {e : Ending} (h : OpenPost w w' e n f) : OpenTwo w w' e n f := by
  rcases h with ⟨ho, v, rfl, h1, h2⟩ | ⟨ho, rfl, h2⟩
  · refine ⟨v, by rw [ho], ?_, h2⟩
    rw [ho]
    exact h1
  · refine ⟨_, by rw [ho], ?_, h2⟩
    rw [ho]
    exact byt_none
end
theorem num_seal {s : Nat} {f : Nat → Nat} (hs : s < 4294967296) : num 256 (sealF s f) 4 = s :=
  (four_num (fun j hj => by unfold sealF; rw [if_pos hj]; exact Nat.mod_lt _ (by decide)) hs).2 fun j hj => by unfold sealF; rw [if_pos hj]
theorem seal_behind (s : Nat) (f : Nat → Nat) (j : Nat) : sealF s f (4 + j) = f j := by
  unfold sealF
  rw [if_neg (by omega), Nat.add_sub_cancel_left]
theorem openB_seal {f : Nat → Nat} {n : Nat} (hf : ∀ j, j < n → f j < 256) : OpenB (sealF (crcN f n) f) (4 + n) = true := by
  rw [openB_is (by omega), decide_eq_true_eq, num_seal (crcN_lt hf), Nat.add_sub_cancel_left]
  exact crcN_congr fun j _ => (seal_behind _ _ _).symm

set_option maxHeartbeats 2000000 in
theorem crcSums_out (A : Option Addr) (n c : Nat) (w : World) (hn : 3000 < n) (hn2 : n ≤ 9223372036854775807) :
    Calls Try.prog 3 #[.slice A n c] w fun e w' => e = .returned (.bool true) ∧ Below w.heap.size w w' := by
  go_enter Try.func3, Try.ntmps3
  go_wp2_with (go_at_call 8; refine (awake_any _).mono ?_; rintro e w1 ⟨rfl, hb1⟩)
  go_ret
  exact ⟨rfl, hb1⟩

set_option maxRecDepth 20000 in
set_option maxHeartbeats 2000000 in
theorem crcSums_in (A : Option Addr) (n c : Nat) (f : Nat → Nat) (w : World) (hb : Byt w (.slice A n c) n f) (hA : A = none → n = 0 ∧ c = 0) (hn : n ≤ 3000) :
    Calls Try.prog 3 #[.slice A n c] w fun e w' => e = .returned (.bool true) ∧ Below w.heap.size w w' := by
  have HB := Lib.hid hb
  have HA := Lib.hid hA
  have HF := Lib.hid hb.lt
  have HOS := Lib.hid (openB_seal hb.lt)
  clear hb hA
  go_enter Try.func3, Try.ntmps3
  go_wp2_with fail
  refine (awake_any _).mono ?_
  rintro e w1 ⟨rfl, hb1⟩
  have HB1 := Lib.hid hb1
  clear hb1
  go_wp2_with fail
  refine (open_b (HB.out.below HB1.out) (by omega)).mono ?_
  intro e w2 h
  obtain ⟨vx, rfl, hx, hb2⟩ := h.two
  have HX2 := Lib.hid hx
  have HB2 := Lib.hid (bbt HB1.out hb2)
  clear h hx hb2
  go_wp2_with fail
  refine (ropen_b (HB.out.below HB2.out) (by omega)).mono ?_
  intro e w3 h
  obtain ⟨vy, rfl, hy, hb3⟩ := h.two
  have HY3 := Lib.hid hy
  have HX3 := Lib.hid (HX2.out.below hb3)
  have HB3 := Lib.hid (bbt HB2.out hb3)
  clear h hy hb3 HX2
  generalize hob : OpenB f n = ob at *
  have HOB := Lib.hid hob
  clear hob
  go_wp2_with fail
  obtain ⟨A', c', hv, hcc, hrr, hff⟩ := HB.out.below HB3.out
  injection hv with hv1 hv2 hv3
  subst hv1 hv3
  refine (seal_any _ _ _ f _ hrr hff (by omega) HA.out).mono ?_
  clear hrr hff hcc hv2
  rintro e w4 ⟨vs, rfl, hs, hb4⟩
  have HS4 := Lib.hid hs
  have HX4 := Lib.hid (HX3.out.below hb4)
  have HY4 := Lib.hid (HY3.out.below hb4)
  have HB4 := Lib.hid (bbt HB3.out hb4)
  clear hs hb4 HX3 HY3
  go_wp2_with fail
  refine (open_b HS4.out (by omega)).mono ?_
  intro e w5 h
  obtain ⟨vz, rfl, hz, hb5⟩ := h.yes HOS.out
  have HZ5 := Lib.hid (hz.cast (m := n) (g := f) (Nat.add_sub_cancel_left _ _) fun j _ => seal_behind _ _ _)
  have HS5 := Lib.hid (HS4.out.below hb5)
  have HX5 := Lib.hid (HX4.out.below hb5)
  have HY5 := Lib.hid (HY4.out.below hb5)
  have HB5 := Lib.hid (bbt HB4.out hb5)
  clear h hz hb5 HS4 HX4 HY4
  go_wp2_with fail
  refine (sum_b (HB.out.below HB5.out) (by omega)).mono ?_
  rintro e w6 ⟨rfl, hb6⟩
  have HZ6 := Lib.hid (HZ5.out.below hb6)
  have HS6 := Lib.hid (HS5.out.below hb6)
  have HX6 := Lib.hid (HX5.out.below hb6)
  have HY6 := Lib.hid (HY5.out.below hb6)
  have HB6 := Lib.hid (bbt HB5.out hb6)
  clear hb6 HS5 HX5 HY5 HZ5
  go_wp2_with fail
  refine (rsum_b (HB.out.below HB6.out) (by omega)).mono ?_
  rintro e w' ⟨rfl, rfl⟩
  go_wp2_with fail
  refine (rows_b HX6.out HY6.out (by split <;> omega) (fun _ _ => rfl)).mono ?_
  rintro e w7 ⟨rfl, hb7⟩
  have HZ7 := Lib.hid (HZ6.out.below hb7)
  have HS7 := Lib.hid (HS6.out.below hb7)
  have HB7 := Lib.hid (bbt HB6.out hb7)
  clear hb7 HS6 HX6 HY6 HZ6
  go_wp2_with fail
  obtain ⟨A', c', hv, hcc, hrr, hff⟩ := HB.out.below HB7.out
  injection hv with hv1 hv2 hv3
  subst hv1 hv3
  refine (rseal_any _ _ _ f _ hrr hff (by omega) HA.out).mono ?_
  clear hrr hff hcc hv2
  rintro e w8 ⟨vr, rfl, hr, hb8⟩
  have HR8 := Lib.hid hr
  have HZ8 := Lib.hid (HZ7.out.below hb8)
  have HS8 := Lib.hid (HS7.out.below hb8)
  have HB8 := Lib.hid (bbt HB7.out hb8)
  clear hr hb8 HS7 HZ7
  go_wp2_with fail
  refine (rows_b HS8.out HR8.out (by omega) (fun _ _ => rfl)).mono ?_
  rintro e w9 ⟨rfl, hb9⟩
  have HZ9 := Lib.hid (HZ8.out.below hb9)
  have HB9 := Lib.hid (bbt HB8.out hb9)
  clear hb9 HS8 HR8 HZ8
  go_wp2_with fail
  refine (rows_b HZ9.out (HB.out.below HB9.out) (by omega) (fun _ _ => rfl)).mono ?_
  rintro e w10 ⟨rfl, hb10⟩
  have HB10 := Lib.hid (bbt HB9.out hb10)
  clear hb10 HZ9
  go_wp2
  go_ret
  exact ⟨rfl, HB10.out⟩
end Go.Proofs.Ytjijfbllbajdoaa
