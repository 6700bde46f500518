/- The walk of DiskPlays. -/
import Derived.Test.YtldbnlmimjamnaaEk
import Derived.Test.YtldbnlmimjamnaaAct
import Derived.Test.YtldbnlmimjamnaaDq
import Derived.Test.YtldbnlmimjamnaaDm
namespace Go.Proofs.Ytldbnlmimjamnaa
open Go.RowKit

section
variable {F : Nat → Prop} {w0 w w' : World} {gd g t t' : Nat} {S S' R R' : DS} {Φ Ψ : World → Prop}
theorem sectors_new {n : Nat} (h : DskAt F w gd (DS.new n)) :
    Calls Try.prog 11 #[.pointer (some ⟨gd, 0, none⟩)] w fun e w' => e = .returned (.int .i64 (n : Nat)) ∧ w = w' := by
  obtain ⟨gt, gs, ct, cs, vp, xs, VT, VS, hd⟩ := h
  exact sectors_any hd
theorem Two.alike (h : Two w0 w gd g t S R Φ) {u v : Value} {T : Nat → Option (Nat → Nat)} {n : Nat} (hn : n = R.n) (hu : Img Any w u n T) (hv : Img Any w v n T) :
    Calls Try.prog 15 #[u, v] w fun e w' => e = .returned (.bool true) ∧ Two w0 w' gd g t S R Φ :=
  (alike_yes hu hv (by rw [hn]; exact h.n2) fun _ _ => SameO.refl _).mono fun _ _ ⟨h1, h2⟩ => ⟨h1, h.below h2⟩
end
theorem diskPlays_bad (a0 : Int) (ha : a0 < 1 ∨ 512 < a0) (A : Option Addr) (n cp : Nat) (w : World) :
    Calls Try.prog 3 #[.int .i64 a0, .slice A n cp] w fun e w' => e = .returned (.bool true) ∧ Below w.heap.size w w' := by
  have HNEW := Lib.hid (fun (w1 : World) => new_bad a0 w1 ha)
  rcases ha with h | h
  · go_enter Try.func3, Try.ntmps3
    go_wp2_with (first
      | (go_at_call 9; with_reducible refine (awake_any _).mono ?_; rintro e w1 ⟨rfl, hb1⟩)
      | (go_at_call 10; refine (HNEW.out _).mono ?_; rintro e w2 ⟨rfl, rfl⟩))
    go_ret
    exact ⟨rfl, hb1⟩
  · have h1 : decide (a0 < 1) = false := by rw [decide_eq_false_iff_not]; omega
    go_enter Try.func3, Try.ntmps3
    go_wp2_with (first
      | (go_at_call 9; with_reducible refine (awake_any _).mono ?_; rintro e w1 ⟨rfl, hb1⟩)
      | (go_at_call 10; refine (HNEW.out _).mono ?_; rintro e w2 ⟨rfl, rfl⟩))
    go_ret
    exact ⟨rfl, hb1⟩
set_option maxRecDepth 20000 in
set_option maxHeartbeats 4000000 in
theorem diskPlays_good (N : Nat) (hN1 : 1 ≤ N) (hN2 : N ≤ 512) (A : Option Addr) (n cp : Nat) (X : Nat → ActD) (w : World) (_hn : n ≤ 9223372036854775807) (hX : Acts w A n X) :
    Calls Try.prog 3 #[.int .i64 (N : Nat), .slice A n cp] w fun e w' => e = .returned (.bool true) ∧ Below w.heap.size w w' := by
  have HX := Lib.hid hX
  clear hX
  have d1 : decide ((N : Int) < 1) = false := by rw [decide_eq_false_iff_not]; omega
  have d2 : decide (512 < (N : Int)) = false := by rw [decide_eq_false_iff_not]; omega
  have HNEW := Lib.hid (fun (w1 : World) => new_any N w1 hN1 hN2)
  have HMK := Lib.hid (fun (w1 : World) => make_any N w1 hN1 hN2)
  go_enter Try.func3, Try.ntmps3
  go_wp2_with (first
    | (go_at_call 9; with_reducible refine (awake_any _).mono ?_; rintro e w1 ⟨rfl, hb1⟩)
    | (go_at_call 10; refine (HNEW.out _).mono ?_; rintro e w2 ⟨gd, F, rfl, hF, hFn, hb2⟩)
    | (go_at_call 11; with_reducible refine (sectors_new hF).mono ?_; rintro e w3 ⟨rfl, rfl⟩)
    | (go_at_call 12; refine (HMK.out _).mono ?_; rintro e w4 ⟨g, G, rfl, hG, hGn, hb4⟩))
  have h0 : Two w w4 gd g 0 (DS.new N) (DS.new N) fun _ => True := two_new hF (fun k hk => by have := hFn k hk; have := hb1.size; omega) (bbt hb1 hb2) hG hGn hb4
  clear hF hFn hb2 hG hGn hb4 hb1 HNEW HMK
  go_loopw [8] (fun v wr => ∃ (i t : Nat) (S : DS), i ≤ 60 ∧ v = .int .i64 i ∧ t ≤ i ∧ S.P.length ≤ i ∧ Two w wr gd g t S S fun _ => True) (fun v _ => 60 - (intOf v).toNat)
  case atStart => exact ⟨0, 0, DS.new N, by omega, rfl, Nat.le_refl _, Nat.le_refl _, h0⟩
  case round =>
    obtain ⟨i, t, S, hi, rfl, ht, hP, h4⟩ := hrel
    have HI := Lib.hid hi
    have HT := Lib.hid ht
    have HP := Lib.hid hP
    clear hi ht hP h0
    by_cases hlt : i < n ∧ i < 60
    · obtain ⟨hl1, hl2⟩ := hlt
      obtain ⟨ad, rfl, hact0⟩ := HX.out i hl1
      have hact := (HX.out.below h4.bel).at_ hl1
      obtain ⟨act, hA⟩ : ∃ a, X i = a := ⟨_, rfl⟩
      rw [hA] at hact hact0
      clear hA
      obtain ⟨xK, xi, xc, xb, aA, an, ac, af⟩ := act
      obtain ⟨hb, x0, x1, x2, x3, x4, _⟩ := hact
      obtain ⟨_, _, _, _, _, _, g0, g1, g2, g3, g4, g5, g6, _⟩ := hact0
      have x0' : wr.cell? (ad.add (i * 5)) = some (.int .i64 xK) := x0
      have x1' : wr.cell? ⟨(ad.add (i * 5)).block, (ad.add (i * 5)).off + 1, none⟩ = some (.int .i64 xi) := x1
      have x2' : wr.cell? ⟨(ad.add (i * 5)).block, (ad.add (i * 5)).off + 2, none⟩ = some (.int .u8 (xc : Nat)) := x2
      have x3' : wr.cell? ⟨(ad.add (i * 5)).block, (ad.add (i * 5)).off + 3, none⟩ = some (.bool xb) := x3
      have x4' : wr.cell? ⟨(ad.add (i * 5)).block, (ad.add (i * 5)).off + 4, none⟩ = some (.slice aA an ac) := x4
      by_cases hc3 : 300 < an
      · have hc3' : (300 : Int) < (an : Int) := by omega
        clear g0 g1 g2 g3 g4 g5 g6
        go_wp2
        go_ret
        exact ⟨rfl, h4.bel⟩
      · have d3 : decide ((300 : Int) < (an : Int)) = false := by rw [decide_eq_false_iff_not]; omega
        have h4d := h4.drew
        have HDO := Lib.hid (show Calls Try.prog 13 #[.pointer (some ⟨gd, 0, none⟩), .pointer (some ⟨g, 0, none⟩), .agg #[.int .i64 xK, .int .i64 xi, .int .u8 (xc : Nat), .bool xb, .slice aA an ac]] wr.drew fun e w' => DoPost w gd g t S e w' from
          do_any h4d (by have := HT.out; have := HI.out; omega) (by have := HP.out; have := HI.out; omega) xK xi ⟨g1, g0⟩ xc g2 xb aA an ac af g5 g6 g3 (by omega))
        clear g0 g1 g2 g3 g4 g5 g6 h4 h4d
        go_wp2
        go_region_with (first
          | (go_at_call 13; refine HDO.out.mono ?_; rintro e w3 ⟨S2, t2, rfl, h3, ht3, hP3⟩; have y := h3.off; have HT3 := Lib.hid ht3; have HP3 := Lib.hid hP3; clear ht3 hP3)
          | (go_at_call 14; with_reducible refine h3.down.mono ?_; rintro e w4 ⟨rfl, rfl⟩)
          | (go_at_call 16; with_reducible refine h3.image1.mono ?_; rintro e w5 ⟨a5, c5, rfl, h5⟩)
          | (go_at_call 17; with_reducible refine h5.image2.mono ?_; rintro e w6 ⟨a6, c6, rfl, h6, hi6⟩)
          | (go_at_call 15; with_reducible refine (h6.alike rfl h6.sat.2 hi6).mono ?_; rintro e w7 ⟨rfl, h7⟩))
        all_goals
          go_wp2
          go_roundw
          case rel => exact ⟨i + 1, t2, S2, by omega, by go_num, by have := HT3.out; have := HT.out; omega, by have := HP3.out; have := HP.out; omega, h7.imp fun _ _ => trivial⟩
          case measure => simp [intOf]; omega
    · have hq : (¬ i < n) ∨ (i < n ∧ ¬ i < 60) := by omega
      clear hlt
      rcases hq with hq | ⟨hq, hq'⟩
      all_goals
        go_wp2
        go_ret
        exact ⟨rfl, h4.bel⟩
theorem diskPlays_walk (a0 : Int) (A : Option Addr) (n cp : Nat) (X : Nat → ActD) (w : World) (hn : n ≤ 9223372036854775807) (hX : Acts w A n X) :
    Calls Try.prog 3 #[.int .i64 a0, .slice A n cp] w fun e w' => e = .returned (.bool true) ∧ Below w.heap.size w w' := by
  by_cases h : a0 < 1 ∨ 512 < a0
  · exact diskPlays_bad a0 h A n cp w
  · obtain ⟨N, rfl⟩ : ∃ N : Nat, a0 = N := ⟨a0.toNat, by omega⟩
    exact diskPlays_good N (by omega) (by omega) A n cp X w hn hX
end Go.Proofs.Ytldbnlmimjamnaa
