/- Contract: Alike, of images of one disk. -/
import Derived.Test.YteeomidlnijfbaaPOa
import Derived.Test.YteeomidlnijfbaaPOg
namespace Go.Proofs.Yteeomidlnijfbaa
open Go.RowKit

theorem seco_both {R R' : Nat → Prop} {w : World} {u v : Value} {s t : Option (Nat → Nat)} (hu : SecO R w u s) (hv : SecO R' w v t) (hst : SameO s t) :
    ∃ A c B d m f, u = .slice A m c ∧ v = .slice B m d ∧ m ≤ 64 ∧ Rd .u8 w A m f ∧ Rd .u8 w B m f := by
  cases s with
  | none =>
    cases t with
    | none => exact ⟨none, 0, none, 0, 0, fun _ => 0, hu, hv, by omega, Rd.zero, Rd.zero⟩
    | some g => exact hst.elim
  | some f =>
    cases t with
    | none => exact hst.elim
    | some g =>
      obtain ⟨g1, o1, c1, rfl, _, _, hr1, _⟩ := Sec.rd hu
      obtain ⟨g2, o2, c2, rfl, _, _, hr2, _⟩ := Sec.rd hv
      exact ⟨_, c1, _, c2, 64, f, rfl, rfl, Nat.le_refl _, hr1, hr2.congr fun j hj => (hst j hj).symm⟩
set_option maxRecDepth 100000 in
set_option maxHeartbeats 2000000 in
theorem alike_yes {G G' : Nat → Prop} {w : World} {u v : Value} {n : Nat} {T U : Nat → Option (Nat → Nat)} (hu : Img G w u n T) (hv : Img G' w v n U) (hn : n ≤ 512) (hTU : ∀ i, i < n → SameO (T i) (U i)) :
    Calls Try.prog 19 #[u, v] w fun e w' => e = .returned (.bool true) ∧ Below w.heap.size w w' := by
  obtain ⟨ga, ca, VA, rfl, hca, _, hga, hra, hsa⟩ := hu
  obtain ⟨gb, cb, VB, rfl, hcb, _, hgb, hrb, hsb⟩ := hv
  have HRA := Lib.hid hra
  have HRB := Lib.hid hrb
  have HSB := Lib.hid (fun i hi => seco_both (hsa i hi) (hsb i hi) (hTU i hi))
  clear hra hrb hsa hsb hTU
  go_enter Try.func19, Try.ntmps19
  go_wp2
  go_loopw [5] (fun x wr => ∃ k : Nat, k ≤ n ∧ x = .int .i64 k ∧ Below w.heap.size w wr) (fun x _ => n - (intOf x).toNat)
  case atStart => exact ⟨0, Nat.zero_le _, rfl, Below.refl _ _⟩
  case round =>
    obtain ⟨k, hk, rfl, hbl⟩ := hrel
    have HBL := Lib.hid hbl
    by_cases hlt : k < n
    · obtain ⟨A, c, B, d, m, f, e1, e2, hm, hr1, hr2⟩ := HSB.out k hlt
      have HR1 := Lib.hid (hr1.below hbl)
      have HR2 := Lib.hid (hr2.below hbl)
      have z1 := (HRA.out.of_block (hbl.block ga hga)).cell (i := k) (by omega)
      have z2 := (HRB.out.of_block (hbl.block gb hgb)).cell (i := k) (by omega)
      rw [e1] at z1
      rw [e2] at z2
      clear e1 e2 hr1 hr2 hbl
      have i0 : (0 : Int) ≤ (k : Int) := by omega
      have i1 : (k : Int) < (n : Int) := by omega
      go_wp2
      go_quiet (fail)
      go_wp2
      go_loopw [6] (fun x wq => ∃ j : Nat, j ≤ m ∧ x = .int .i64 j ∧ Below wr.heap.size wr wq) (fun x _ => m - (intOf x).toNat)
      case atStart => exact ⟨0, Nat.zero_le _, rfl, Below.drewN_ (Below.refl _ _) _⟩
      case round =>
        obtain ⟨j, hj, rfl, hbq⟩ := hrel
        have z3 := cell_later hbq z1
        have z4 := cell_later hbq z2
        have HBQ := Lib.hid hbq
        by_cases hjm : j < m
        · obtain ⟨a1, rfl, y1⟩ := (HR1.out.below hbq) j hjm
          obtain ⟨a2, rfl, y2⟩ := (HR2.out.below hbq) j hjm
          clear hbq z1 z2
          go_wp2
          go_quiet (fail)
          go_wp2
          go_roundw
          case rel => exact ⟨j + 1, by omega, by go_num, Below.drewN_ HBQ.out _⟩
          case measure => simp [intOf]; omega
        · obtain rfl : j = m := by omega
          clear hbq z1 z2
          go_wp2
          go_roundw
          case rel => exact ⟨k + 1, by omega, by go_num, bbt HBL.out HBQ.out⟩
          case measure => simp [intOf]; omega
    · obtain rfl : k = n := by omega
      clear hbl
      go_wp2
      go_ret
      exact ⟨rfl, HBL.out⟩
end Go.Proofs.Yteeomidlnijfbaa

/- RootQuiet. -/
namespace Go.Proofs.Yteeomidlnijfbaa
open Go.RowKit
set_option linter.unusedSimpArgs false
set_option linter.unusedVariables false

theorem load_saved {n g : Nat} (hn : 2 ≤ n) (hg : g < 4294967296) : (Sti n (setT (fun _ => some fun _ => 0) (g % 2) (some (rootF g)))).load = (g, 0) := by
  rw [sti_load hn, two_max (fun i => sayN i (setT (fun _ => some fun _ => 0) (g % 2) (some (rootF g)) i)) (a := g % 2) (by omega)]
  have e1 : setT (fun _ => some fun _ => 0) (g % 2) (some (rootF g)) (g % 2) = some (rootF g) := if_pos rfl
  have e2 : setT (fun _ => some fun _ => 0) (g % 2) (some (rootF g)) (1 - g % 2) = some fun _ => 0 := if_neg (by omega)
  show (max (sayN (g % 2) (setT (fun _ => some fun _ => 0) (g % 2) (some (rootF g)) (g % 2))) (sayN (1 - g % 2) (setT (fun _ => some fun _ => 0) (g % 2) (some (rootF g)) (1 - g % 2))), (0 : Int)) = _
  rw [e1, e2, say_root hg, if_pos rfl, say_zero, Nat.max_eq_left (Nat.zero_le _)]
section
variable {w0 w w' : World} {gd : Nat} {S S' : DS} {Φ Ψ : World → Prop}
theorem Held.alikeR (h : Held w0 w gd S Φ) {u v : Value} {n : Nat} {T : Nat → Option (Nat → Nat)} (hu : ∀ w, Φ w → Img Any w u n T) (hv : ∀ w, Φ w → Img Any w v n T) (hn : n ≤ 512) :
    Calls Try.prog 19 #[u, v] w fun e w' => e = .returned (.bool true) ∧ Held w0 w' gd S Φ :=
  (alike_yes (hu w h.sat) (hv w h.sat) hn fun _ _ => SameO.refl _).mono fun _ _ ⟨h1, h2⟩ => ⟨h1, h.below h2⟩
end
/-- What is so of a disk behind the first save. -/
structure QuietD (N g : Nat) (T : Nat → Option (Nat → Nat)) (e a f : Int) : Prop where
  save : (Sti N fun _ => some fun _ => 0).save g = (Sti N T, e)
  load : (Sti N T).load = (a.toNat, f)
  a0 : 0 ≤ a
  save0 : (Sti N T).save 0 = (Sti N T, 1)
set_option maxRecDepth 100000 in
set_option maxHeartbeats 4000000 in
theorem root_quiet (w : World) (n0 g : Nat) (hn0 : n0 < 256) (hg : g < 4294967296) : Calls Try.prog 9 #[.int .u8 (n0 : Nat), .int .u32 (g : Nat)] w fun e w' => e = .returned (.bool true) ∧ Below w.heap.size w w' := by
  obtain ⟨r, hr⟩ : ∃ r, n0 % 8 = r := ⟨_, rfl⟩
  have hrI : ((n0 : Nat) : Int) % 8 = (r : Int) := by omega
  have hr8 : r < 8 := by omega
  have key : ∃ T e a f, QuietD (1 + r) g T e a f ∧ ((r = 0 ∧ e = 1 ∧ f = 1 ∧ a = 0) ∨ (1 ≤ r ∧ g = 0 ∧ e = 1 ∧ f = 0 ∧ a = 0) ∨ (1 ≤ r ∧ 0 < g ∧ e = 0 ∧ f = 0 ∧ a = (g : Nat))) := by
    by_cases h1 : r = 0
    · exact ⟨_, 1, 0, 1, ⟨sti_save0 (.inl (by omega)), sti_load1 (by omega), by omega, sti_save0 (.inl (by omega))⟩, .inl ⟨h1, rfl, rfl, rfl⟩⟩
    · by_cases h2 : g = 0
      · subst h2
        exact ⟨_, 1, 0, 0, ⟨sti_save0 (.inr rfl), by rw [sti_load (by omega), say_zero, say_zero]; rfl, by omega, sti_save0 (.inr rfl)⟩, .inr (.inl ⟨by omega, rfl, rfl, rfl, rfl⟩)⟩
      · exact ⟨_, 0, (g : Nat), 0, ⟨sti_save (by omega) h2, load_saved (by omega) hg, by omega, sti_save0 (.inr rfl)⟩, .inr (.inr ⟨by omega, by omega, rfl, rfl, rfl⟩)⟩
  obtain ⟨T, e1, a, f, hq, hcase⟩ := key
  have HNEW : Hid (∀ u, Below w.heap.size w u → Calls Try.prog 12 #[.int .i64 (1 + (r : Int))] u fun e w' => ∃ gd, e = .returned (.tuple #[.pointer (some ⟨gd, 0, none⟩), .int .i64 0]) ∧ Held w w' gd (Sti (1 + r) fun _ => some fun _ => 0) fun _ => True) := fun u hu => by
    rw [show (1 : Int) + (r : Int) = ((1 + r : Nat) : Int) from by omega]
    exact held_sti (1 + r) (by omega) (by omega) hu
  have HS : Hid (∀ u gd, Held w u gd (Sti (1 + r) fun _ => some fun _ => 0) (fun _ => True) → Calls Try.prog 25 #[.pointer (some ⟨gd, 0, none⟩), .int .u32 (g : Nat)] u fun e w' => e = .returned (.int .i64 e1) ∧ Held w w' gd (Sti (1 + r) T) fun _ => True) := fun u gd h => by
    have := h.save (Nat.zero_le _) g hg
    rw [hq.save] at this
    exact this
  have HIM : Hid (∀ u gd (Φ : World → Prop), Held w u gd (Sti (1 + r) T) Φ → Calls Try.prog 33 #[.pointer (some ⟨gd, 0, none⟩)] u fun e w' => ∃ A c, e = .returned (.slice A (1 + r) c) ∧ Held w w' gd (Sti (1 + r) T) fun v => Φ v ∧ Img Any v (.slice A (1 + r) c) (1 + r) T) := fun u gd Φ h => h.image
  have HLD : Hid (∀ u gd (Φ : World → Prop), Held w u gd (Sti (1 + r) T) Φ → Calls Try.prog 31 #[.pointer (some ⟨gd, 0, none⟩)] u fun e w' => e = .returned (.tuple #[.int .u32 a, .int .i64 f]) ∧ Held w w' gd (Sti (1 + r) T) Φ) := fun u gd Φ h => by
    have := h.load
    rw [hq.load] at this
    have ea : ((a.toNat : Nat) : Int) = a := Int.toNat_of_nonneg hq.a0
    simp only [ea] at this
    exact this
  have HS0 : Hid (∀ u gd (Φ : World → Prop), Held w u gd (Sti (1 + r) T) Φ → Calls Try.prog 25 #[.pointer (some ⟨gd, 0, none⟩), .int .u32 0] u fun e w' => e = .returned (.int .i64 1) ∧ Held w w' gd (Sti (1 + r) T) Φ) := fun u gd Φ h => by
    have := h.save (Nat.zero_le _) 0 (by decide)
    rw [hq.save0] at this
    exact this
  have HAL : Hid (∀ u gd (x y : Value) (Φ : World → Prop), Held w u gd (Sti (1 + r) T) (fun v => (Φ v ∧ Img Any v x (1 + r) T) ∧ Img Any v y (1 + r) T) → Calls Try.prog 19 #[x, y] u fun e w' => e = .returned (.bool true) ∧ Below w.heap.size w w') := fun u gd x y Φ h => (h.alikeR (fun _ h => h.1.2) (fun _ h => h.2) (by omega)).mono fun _ _ h => ⟨h.1, h.2.bel⟩
  clear hq hr
  rcases hcase with ⟨rfl, rfl, rfl, rfl⟩ | ⟨h1, rfl, rfl, rfl, rfl⟩ | ⟨h1, h2, rfl, rfl, rfl⟩
  · go_enter Try.func9, Try.ntmps9
    go_wp2_with (first
      | (go_at_call 23; refine (awake8 _).mono ?_; rintro e w1 ⟨rfl, hb1⟩; have HB1 := Lib.hid hb1; clear hb1)
      | (go_at_call 12; refine (HNEW.out _ HB1.out).mono ?_; rintro e w2 ⟨gd, rfl, h2⟩; have H2 := Lib.hid h2; clear h2)
      | (have _t := H6; clear _t; go_at_call 25; refine (HS0.out _ _ _ H6.out).mono ?_; rintro e w7 ⟨rfl, h7⟩; have H7 := Lib.hid h7; clear h7)
      | (go_at_call 25; refine (HS.out _ _ H2.out).mono ?_; rintro e w3 ⟨rfl, h3⟩; have H3 := Lib.hid h3; clear h3)
      | (have _t := H5; clear _t; go_at_call 31; refine (HLD.out _ _ _ H5.out).mono ?_; rintro e w6 ⟨rfl, h6⟩; have H6 := Lib.hid h6; clear h6)
      | (go_at_call 31; refine (HLD.out _ _ _ H4.out).mono ?_; rintro e w5 ⟨rfl, h5⟩; have H5 := Lib.hid h5; clear h5)
      | (have _t := H7; clear _t; go_at_call 33; refine (HIM.out _ _ _ H7.out).mono ?_; rintro e w8 ⟨A8, c8, rfl, h8⟩; have H8 := Lib.hid h8; clear h8)
      | (go_at_call 33; refine (HIM.out _ _ _ H3.out).mono ?_; rintro e w4 ⟨A4, c4, rfl, h4⟩; have H4 := Lib.hid h4; clear h4)
      | (go_at_call 19; refine (HAL.out _ _ _ _ _ H8.out).mono ?_; rintro e w9 ⟨rfl, h9⟩; have H9 := Lib.hid h9; clear h9))
    go_ret
    exact ⟨rfl, H9.out⟩
  · have j1 : (1 : Int) ≤ (r : Int) := by omega
    have j2 : (r : Int) < 8 := by omega
    clear h1 hr8
    go_enter Try.func9, Try.ntmps9
    go_wp2_with (first
      | (go_at_call 23; refine (awake8 _).mono ?_; rintro e w1 ⟨rfl, hb1⟩; have HB1 := Lib.hid hb1; clear hb1)
      | (go_at_call 12; refine (HNEW.out _ HB1.out).mono ?_; rintro e w2 ⟨gd, rfl, h2⟩; have H2 := Lib.hid h2; clear h2)
      | (have _t := H6; clear _t; go_at_call 25; refine (HS0.out _ _ _ H6.out).mono ?_; rintro e w7 ⟨rfl, h7⟩; have H7 := Lib.hid h7; clear h7)
      | (go_at_call 25; refine (HS.out _ _ H2.out).mono ?_; rintro e w3 ⟨rfl, h3⟩; have H3 := Lib.hid h3; clear h3)
      | (have _t := H5; clear _t; go_at_call 31; refine (HLD.out _ _ _ H5.out).mono ?_; rintro e w6 ⟨rfl, h6⟩; have H6 := Lib.hid h6; clear h6)
      | (go_at_call 31; refine (HLD.out _ _ _ H4.out).mono ?_; rintro e w5 ⟨rfl, h5⟩; have H5 := Lib.hid h5; clear h5)
      | (have _t := H7; clear _t; go_at_call 33; refine (HIM.out _ _ _ H7.out).mono ?_; rintro e w8 ⟨A8, c8, rfl, h8⟩; have H8 := Lib.hid h8; clear h8)
      | (go_at_call 33; refine (HIM.out _ _ _ H3.out).mono ?_; rintro e w4 ⟨A4, c4, rfl, h4⟩; have H4 := Lib.hid h4; clear h4)
      | (go_at_call 19; refine (HAL.out _ _ _ _ _ H8.out).mono ?_; rintro e w9 ⟨rfl, h9⟩; have H9 := Lib.hid h9; clear h9))
    go_ret
    exact ⟨rfl, H9.out⟩
  · have j1 : (1 : Int) ≤ (r : Int) := by omega
    have j2 : (r : Int) < 8 := by omega
    have j3 : (0 : Int) < (g : Int) := by omega
    clear h1 h2 hr8
    go_enter Try.func9, Try.ntmps9
    go_wp2_with (first
      | (go_at_call 23; refine (awake8 _).mono ?_; rintro e w1 ⟨rfl, hb1⟩; have HB1 := Lib.hid hb1; clear hb1)
      | (go_at_call 12; refine (HNEW.out _ HB1.out).mono ?_; rintro e w2 ⟨gd, rfl, h2⟩; have H2 := Lib.hid h2; clear h2)
      | (have _t := H6; clear _t; go_at_call 25; refine (HS0.out _ _ _ H6.out).mono ?_; rintro e w7 ⟨rfl, h7⟩; have H7 := Lib.hid h7; clear h7)
      | (go_at_call 25; refine (HS.out _ _ H2.out).mono ?_; rintro e w3 ⟨rfl, h3⟩; have H3 := Lib.hid h3; clear h3)
      | (have _t := H5; clear _t; go_at_call 31; refine (HLD.out _ _ _ H5.out).mono ?_; rintro e w6 ⟨rfl, h6⟩; have H6 := Lib.hid h6; clear h6)
      | (go_at_call 31; refine (HLD.out _ _ _ H4.out).mono ?_; rintro e w5 ⟨rfl, h5⟩; have H5 := Lib.hid h5; clear h5)
      | (have _t := H7; clear _t; go_at_call 33; refine (HIM.out _ _ _ H7.out).mono ?_; rintro e w8 ⟨A8, c8, rfl, h8⟩; have H8 := Lib.hid h8; clear h8)
      | (go_at_call 33; refine (HIM.out _ _ _ H3.out).mono ?_; rintro e w4 ⟨A4, c4, rfl, h4⟩; have H4 := Lib.hid h4; clear h4)
      | (go_at_call 19; refine (HAL.out _ _ _ _ _ H8.out).mono ?_; rintro e w9 ⟨rfl, h9⟩; have H9 := Lib.hid h9; clear h9))
    go_ret
    have hp : 0 < g := by omega
    exact ⟨by show Ending.returned (Value.bool (decide (0 < g))) = _; rw [decide_eq_true hp], H9.out⟩
end Go.Proofs.Yteeomidlnijfbaa
