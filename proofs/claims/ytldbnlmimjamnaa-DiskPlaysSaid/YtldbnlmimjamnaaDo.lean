/- The walk of DiskStops. -/
import Derived.Test.YtldbnlmimjamnaaDn
namespace Go.Proofs.Ytldbnlmimjamnaa
open Go.RowKit

/-- Behind t writes, the power planned to go ahead of the k-th. -/
def StopInv (k t : Nat) (S : DS) : Prop :=
  S.n = 4 ∧ S.P.length ≤ t ∧ ((k = 0 ∧ S.gone = false ∧ S.left = 0) ∨ (0 < k ∧ t < k ∧ S.gone = false ∧ S.left = k - t) ∨ (0 < k ∧ k ≤ t ∧ S.gone = true))
theorem begun_more {S : DS} (h : 2 ≤ S.left) : S.ok = true ∧ S.begun = { S with left := S.left - 1 } := by
  unfold DS.ok DS.begun
  rw [if_neg (by omega), if_neg (by omega)]
  exact ⟨by simp; omega, rfl⟩
theorem begun_last {S : DS} (h : S.left = 1) : S.ok = false ∧ S.begun = { S with left := 0, gone := true } := by
  unfold DS.ok DS.begun
  rw [if_neg (by omega), if_pos h, h]
  exact ⟨rfl, rfl⟩
theorem write_gone' {S : DS} (hg : S.gone = true) (i : Int) (f : Nat → Nat) : S.write i f = (S, 4) := by unfold DS.write; rw [hg]; rfl
theorem stop_step {k t : Nat} {S : DS} (h : StopInv k t S) {j : Nat} (hj : j < 4) (f : Nat → Nat) :
    (S.write (j : Int) f).2 = (if k = 0 ∨ t + 1 < k then 0 else 4) ∧ StopInv k (t + 1) (S.write (j : Int) f).1 := by
  obtain ⟨h1, h2, h3⟩ := h
  have hh : hasB S.n (j : Int) = true := by rw [h1]; simp [hasB]; omega
  rcases h3 with ⟨e1, e2, e3⟩ | ⟨e1, e2, e3, e4⟩ | ⟨e1, e2, e3⟩
  · rw [write_free e2 e3 (by omega), if_pos (.inl e1)]
    exact ⟨rfl, h1, by simp [DS.wrote]; omega, .inl ⟨e1, e2, e3⟩⟩
  · by_cases hl : t + 1 < k
    · have hb := begun_more (S := S) (by omega)
      have hw : S.write (j : Int) f = (DS.wrote { S with left := S.left - 1 } j f, 0) := by
        unfold DS.write
        rw [if_neg (by rw [e3]; simp), if_pos hh]
        first
          | (rw [if_pos hb.1, hb.2]; rfl)
          | (rw [if_neg (by rw [hb.1]; simp), hb.2])
      rw [hw, if_pos (.inr hl)]
      exact ⟨rfl, h1, by simp [DS.wrote]; omega, .inr (.inl ⟨e1, hl, e3, by simp only [DS.wrote]; omega⟩)⟩
    · have hb := begun_last (S := S) (by omega)
      have hw : S.write (j : Int) f = ({ S with left := 0, gone := true }, 4) := by
        unfold DS.write
        rw [if_neg (by rw [e3]; simp), if_pos hh]
        first
          | (rw [if_pos hb.1, hb.2]; rfl)
          | (rw [if_neg (by rw [hb.1]; simp), hb.2])
      rw [hw, if_neg (by omega)]
      exact ⟨rfl, h1, Nat.le_succ_of_le h2, .inr (.inr ⟨e1, by omega, rfl⟩)⟩
  · rw [write_gone' e3, if_neg (by omega)]
    exact ⟨rfl, h1, Nat.le_succ_of_le h2, .inr (.inr ⟨e1, by omega, e3⟩)⟩
/-- No plan, the power there. -/
def Free (n t : Nat) (S : DS) : Prop := S.n = n ∧ S.gone = false ∧ S.left = 0 ∧ S.P.length ≤ t
theorem free_step {n t : Nat} {S : DS} (h : Free n t S) {j : Nat} (hj : j < n) (f : Nat → Nat) : S.write (j : Int) f = (S.wrote j f, 0) ∧ Free n (t + 1) (S.wrote j f) := by
  obtain ⟨h1, h2, h3, h4⟩ := h
  exact ⟨write_free h2 h3 (by omega) f, h1, h2, h3, by simp [DS.wrote]; omega⟩
set_option maxHeartbeats 2000000 in
theorem diskStops_walk (s n : Nat) (w : World) (hs : s < 256) (hn : n < 256) :
    Calls Try.prog 6 #[.int .u8 (s : Nat), .int .u8 (n : Nat)] w fun e w' => e = .returned (.bool true) ∧ Below w.heap.size w w' := by
  obtain ⟨k, hk⟩ : ∃ k, k = s % 30 := ⟨_, rfl⟩
  obtain ⟨m, hm⟩ : ∃ m, m = n % 40 := ⟨_, rfl⟩
  have hk8 : k < 30 := by omega
  have hm8 : m < 40 := by omega
  have hq1 : (s : Int) % 30 = (k : Int) := by omega
  have hq2 : (n : Int) % 40 = (m : Int) := by omega
  have HNEW := Lib.hid (fun (w1 : World) (hb : Below w.heap.size w w1) => held_new (w0 := w) (w := w1) 4 (by omega) (by omega) hb)
  clear hk hm
  go_enter Try.func6, Try.ntmps6
  go_wp2_with (first
    | (go_at_call 9; with_reducible refine (awake_any _).mono ?_; rintro e w1 ⟨rfl, hb1⟩)
    | (go_at_call 10; refine (HNEW.out _ hb1).mono ?_; rintro e w2 ⟨gd, rfl, h0⟩)
    | (go_at_call 24; with_reducible refine (h0.plan k (by omega)).mono ?_; rintro e w3 ⟨rfl, h1⟩))
  have HI := Lib.hid (show StopInv k 0 ((DS.new 4).plan k) from ⟨rfl, Nat.le_refl _, by
    rcases Nat.eq_zero_or_pos k with e | e
    · subst e; exact .inl ⟨rfl, rfl, rfl⟩
    · exact .inr (.inl ⟨e, e, rfl, by simp [DS.plan]⟩)⟩)
  go_loopw [8] (fun v wr => ∃ (t : Nat) (S : DS), t ≤ m ∧ v = .int .i64 ((t : Int) + 1) ∧ StopInv k t S ∧ Held w wr gd S fun _ => True) (fun v _ => 40 - (intOf v).toNat)
  case atStart => exact ⟨0, _, by omega, rfl, HI.out, h1⟩
  case round =>
    obtain ⟨t, S, ht, rfl, hinv, h4⟩ := hrel
    have HIV := Lib.hid hinv
    clear hinv
    by_cases hlt : t < m
    · obtain ⟨j, hj⟩ : ∃ j, j = (t + 1) % 4 := ⟨_, rfl⟩
      have hj4 : j < 4 := by omega
      have hq3 : ((t : Int) + 1) % 4 = (j : Int) := by omega
      have HST := Lib.hid (stop_step HIV.out hj4 (fun _ => t + 1))
      have HPL := Lib.hid (show S.P.length ≤ 1000000 from by have := HIV.out.2.1; omega)
      have hf : (fun _ => t + 1 : Nat → Nat) = fun _ => ((t : Int) + 1).toNat := by funext _; omega
      have HF := Lib.hid hf
      have hle : (t : Int) + 1 ≤ (m : Int) := by omega
      clear hj hf
      obtain ⟨x, S', hw⟩ : ∃ x S', S.write (j : Int) (fun _ => t + 1) = (S', x) := ⟨_, _, rfl⟩
      rw [hw] at HST
      have HW := Lib.hid hw
      have hx : x = (if k = 0 ∨ t + 1 < k then 0 else 4) := HST.out.1
      have HIN := Lib.hid (show StopInv k (t + 1) S' from HST.out.2)
      clear hw HST
      rcases Nat.eq_zero_or_pos k with hk0 | hk0
      · rw [if_pos (.inl hk0)] at hx
        have hk2 : ((k : Int) == 0) = true := by rw [beq_iff_eq]; omega
        have HK0 := Lib.hid hk0
        clear hk0
        rw [hx] at HW
        clear hx
        go_wp2_with (first
          | (go_at_call 19; with_reducible refine (h4.rowI ((t : Int) + 1) (by omega) (by omega) (fun _ => t + 1) HF.out).mono ?_; rintro e w5 ⟨a5, k5, rfl, h5⟩)
          | (go_at_call 18; with_reducible refine (h5.writeE (S' := S') j 0 HW.out HPL.out).mono ?_; rintro e w6 ⟨rfl, h6⟩))
        go_roundw
        case rel => exact ⟨t + 1, S', by omega, by go_num, HIN.out, h6⟩
        case measure => simp [intOf]; omega
      · by_cases hk1 : t + 1 < k
        · rw [if_pos (.inr hk1)] at hx
          have hi : (t : Int) + 1 < (k : Int) := by omega
          have hk2 : ((k : Int) == 0) = false := by rw [beq_eq_false_iff_ne]; omega
          rw [hx] at HW
          clear hx
          go_wp2_with (first
            | (go_at_call 19; with_reducible refine (h4.rowI ((t : Int) + 1) (by omega) (by omega) (fun _ => t + 1) HF.out).mono ?_; rintro e w5 ⟨a5, k5, rfl, h5⟩)
            | (go_at_call 18; with_reducible refine (h5.writeE (S' := S') j 0 HW.out HPL.out).mono ?_; rintro e w6 ⟨rfl, h6⟩))
          go_roundw
          case rel => exact ⟨t + 1, S', by omega, by go_num, HIN.out, h6⟩
          case measure => simp [intOf]; omega
        · rw [if_neg (by omega)] at hx
          have hi : decide ((t : Int) + 1 < (k : Int)) = false := by rw [decide_eq_false_iff_not]; omega
          have hk2 : ((k : Int) == 0) = false := by rw [beq_eq_false_iff_ne]; omega
          rw [hx] at HW
          clear hx
          go_wp2_with (first
            | (go_at_call 19; with_reducible refine (h4.rowI ((t : Int) + 1) (by omega) (by omega) (fun _ => t + 1) HF.out).mono ?_; rintro e w5 ⟨a5, k5, rfl, h5⟩)
            | (go_at_call 18; with_reducible refine (h5.writeE (S' := S') j 4 HW.out HPL.out).mono ?_; rintro e w6 ⟨rfl, h6⟩))
          go_roundw
          case rel => exact ⟨t + 1, S', by omega, by go_num, HIN.out, h6⟩
          case measure => simp [intOf]; omega
    · obtain rfl : t = m := by omega
      have hinv := HIV.out
      have HPL := Lib.hid (show S.P.length ≤ 1000000 from by have := hinv.2.1; omega)
      obtain ⟨G, hG⟩ : ∃ G, S.gone = G := ⟨_, rfl⟩
      have HG := Lib.hid (show Calls Try.prog 14 #[.pointer (some ⟨gd, 0, none⟩)] wr fun e w' => e = .returned (.bool G) ∧ wr = w' from by rw [← hG]; exact h4.down)
      have HFR := Lib.hid (show Free 4 0 (S.up []) from ⟨hinv.1, rfl, rfl, Nat.le_refl _⟩)
      have hcase : (¬ 0 < k ∧ G = false) ∨ (0 < k ∧ ¬ k ≤ t ∧ G = false) ∨ (0 < k ∧ k ≤ t ∧ G = true) := by
        rw [← hG]
        rcases hinv.2.2 with ⟨e1, e2, _⟩ | ⟨e1, e2, e3, _⟩ | ⟨e1, e2, e3⟩
        · exact .inl ⟨by omega, e2⟩
        · exact .inr (.inl ⟨by omega, by omega, e3⟩)
        · exact .inr (.inr ⟨by omega, by omega, e3⟩)
      clear hinv hG
      have q3 : decide ((t : Int) + 1 ≤ (t : Int)) = false := by rw [decide_eq_false_iff_not]; omega
      rcases hcase with ⟨q4, rfl⟩ | ⟨q4, q5, rfl⟩ | ⟨q4, q5, rfl⟩
      all_goals
        go_wp2_with (first
          | (go_at_call 14; with_reducible refine HG.out.mono ?_; rintro e w5 ⟨rfl, rfl⟩)
          | (go_at_call 21; with_reducible refine (h4.up0 (S' := S.up []) HPL.out rfl).mono ?_; rintro e w6 ⟨rfl, h6⟩))
        go_loopw [11] (fun v wr => ∃ (y : Nat) (Z : DS), y ≤ 40 ∧ v = .int .i64 y ∧ Free 4 y Z ∧ Held w wr gd Z fun _ => True) (fun v _ => 40 - (intOf v).toNat)
        case atStart => exact ⟨0, _, by omega, rfl, HFR.out, h6⟩
        case round =>
          obtain ⟨y, Z, hy, rfl, hfr, h7⟩ := hrel
          have HFY := Lib.hid hfr
          have HPZ := Lib.hid (show Z.P.length ≤ 1000000 from by have := hfr.2.2.2; omega)
          have HW := Lib.hid (show Z.write 0 (fun _ => 1) = (Z.wrote 0 fun _ => 1, 0) from (free_step hfr (j := 0) (by omega) _).1)
          have HN := Lib.hid (show Free 4 (y + 1) (Z.wrote 0 fun _ => 1) from (free_step hfr (j := 0) (by omega) _).2)
          have HDN := Lib.hid (show Z.gone = false from hfr.2.1)
          have HFL := Lib.hid (show Z.flush = (Z.flushed, 0) from flush_free hfr.2.1 hfr.2.2.1)
          clear hfr
          by_cases hlt2 : y < 40
          · go_wp2_with (first
              | (go_at_call 19; with_reducible refine (h7.rowI 1 (by omega) (by omega) (fun _ => 1) rfl).mono ?_; rintro e w8 ⟨a8, k8, rfl, h8⟩)
              | (go_at_call 18; with_reducible refine (h8.writeE (S' := Z.wrote 0 fun _ => 1) 0 0 HW.out HPZ.out).mono ?_; rintro e w9 ⟨rfl, h9⟩))
            go_roundw
            case rel => exact ⟨y + 1, _, by omega, by go_num, HN.out, h9⟩
            case measure => simp [intOf]; omega
          · obtain rfl : y = 40 := by omega
            have HD := Lib.hid h7.down
            rw [HDN.out] at HD
            go_wp2_with (first
              | (go_at_call 14; with_reducible refine HD.out.mono ?_; rintro e w8 ⟨rfl, rfl⟩)
              | (go_at_call 20; with_reducible refine (h7.flushE (S' := Z.flushed) 0 HFL.out).mono ?_; rintro e w9 ⟨rfl, h9⟩))
            go_ret
            exact ⟨rfl, h9.bel⟩
end Go.Proofs.Ytldbnlmimjamnaa
