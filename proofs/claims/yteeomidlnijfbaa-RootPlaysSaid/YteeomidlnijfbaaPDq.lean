/- Roots on a disk that loses nothing, by the sectors alone; the document's awake. -/
import Derived.Test.YteeomidlnijfbaaPOe
import Derived.Test.YteeomidlnijfbaaPOa
namespace Go.Proofs.Yteeomidlnijfbaa
open Go.RowKit
set_option linter.unusedSimpArgs false
set_option linter.unusedVariables false

theorem rootG_root {g : Nat} (hg : g < 4294967296) : rootG (rootF g) = g := (sect_dec (g := g) (s := 0) (p := 0) (q := 1) (n := 4) (f := rootW) hg (by omega) root_may rootW_lt).2.1
/-- A root's 13th byte is 1. -/
theorem rootF_13 {g : Nat} (hg : g < 4294967296) : rootF g 13 = 1 := (sect_dec (g := g) (s := 0) (p := 0) (q := 1) (n := 4) (f := rootW) hg (by omega) root_may rootW_lt).2.2.2.2.1
theorem rootF_15 {g : Nat} (hg : g < 4294967296) : rootF g 15 = 114 := (sect_dec (g := g) (s := 0) (p := 0) (q := 1) (n := 4) (f := rootW) hg (by omega) root_may rootW_lt).2.2.2.2.2.2 0 (by omega)
theorem say_root {i g : Nat} (hg : g < 4294967296) : sayN i (some (rootF g)) = if g % 2 = i then g else 0 := by
  have e := rootG_root hg
  by_cases h : g % 2 = i
  · rw [if_pos h]
    have : rootAt i (rootF g) := ⟨fun j _ => by rw [e], by rw [e]; exact h⟩
    exact (if_pos this).trans e
  · rw [if_neg h]
    have : ¬ rootAt i (rootF g) := fun k => h (by rw [← e]; exact k.2)
    exact if_neg this
theorem say_not {i : Nat} {f : Nat → Nat} (hf : ∀ j, j < 64 → f j < 256) (h : f 13 ≠ 1 ∨ f 15 ≠ 114) : sayN i (some f) = 0 := by
  have : ¬ rootAt i f := fun k => by
    have hg := rootG_lt hf
    rcases h with h | h
    · exact h ((k.1 13 (by omega)).trans (rootF_13 hg))
    · exact h ((k.1 15 (by omega)).trans (rootF_15 hg))
  exact if_neg this
theorem say_zero (i : Nat) : sayN i (some fun _ => 0) = 0 := say_not (fun _ _ => by decide) (.inl (by decide))
/-- A disk on which all is flushed, and the power on, without a plan. -/
abbrev Sti (n : Nat) (T : Nat → Option (Nat → Nat)) : DS := ⟨n, T, [], false, 0⟩
section
variable {n : Nat} {T : Nat → Option (Nat → Nat)}
theorem hasB_yes {i : Nat} (h : i < n) : hasB n (i : Nat) = true := by simp [hasB, h]
theorem sti_write {i : Nat} (h : i < n) (f : Nat → Nat) : (Sti n T).write (i : Nat) f = (⟨n, T, [(i, f)], false, 0⟩, 0) := by
  unfold DS.write
  rw [hasB_yes h]
  rfl
theorem sti_save (h2 : 2 ≤ n) {g : Nat} (hg : g ≠ 0) : (Sti n T).save g = (Sti n (setT T (g % 2) (some (rootF g))), 0) := by
  unfold DS.save
  rw [if_neg (by show ¬ (n < 2 ∨ g = 0); omega), sti_write (by omega : g % 2 < n)]
  rfl
theorem sti_save0 {g : Nat} (h : n < 2 ∨ g = 0) : (Sti n T).save g = (Sti n T, 1) := if_pos h
theorem sti_read {i : Nat} (h : i < n) : ((Sti n T).read (i : Nat)).1 = T i := by
  unfold DS.read
  rw [hasB_yes h]
  show (match T (Int.toNat (i : Nat)) with | none => (none, (6 : Int)) | some f => (some f, 0)).1 = T i
  rw [Int.toNat_natCast]
  cases T i <;> rfl
theorem sti_load (h2 : 2 ≤ n) : (Sti n T).load = (max (sayN 0 (T 0)) (sayN 1 (T 1)), 0) := by
  unfold DS.load
  rw [if_neg (by simp), if_neg (by show ¬ n < 2; omega)]
  have e0 : ((Sti n T).read 0).1 = T 0 := sti_read (i := 0) (by omega)
  have e1 : ((Sti n T).read 1).1 = T 1 := sti_read (i := 1) (by omega)
  rw [e0, e1]
theorem sti_up (cs : List Nat) : (Sti n T).up cs = Sti n T := by
  unfold DS.up
  cases cs <;> rfl
end
theorem held_sti {w0 w : World} (n : Nat) (h1 : 1 ≤ n) (h2 : n ≤ 512) (hb : Below w0.heap.size w0 w) : Calls Try.prog 12 #[.int .i64 (n : Nat)] w fun e w' => ∃ gd, e = .returned (.tuple #[.pointer (some ⟨gd, 0, none⟩), .int .i64 0]) ∧ Held w0 w' gd (Sti n fun _ => some fun _ => 0) fun _ => True := held_new n h1 h2 hb
set_option maxRecDepth 100000 in
set_option maxHeartbeats 4000000 in
theorem awake8 (w : World) : Calls Try.prog 23 #[] w fun e w' => e = .returned (.bool true) ∧ Below w.heap.size w w' := by
  have HNEW := Lib.hid (held_sti (w0 := w) (w := w) 2 (by omega) (by omega) (Below.refl _ _))
  have HL0 : Hid (∀ u gd, Held w u gd (Sti 2 fun _ => some fun _ => 0) (fun _ => True) → Calls Try.prog 31 #[.pointer (some ⟨gd, 0, none⟩)] u fun e w' => e = .returned (.tuple #[.int .u32 0, .int .i64 0]) ∧ Held w w' gd (Sti 2 fun _ => some fun _ => 0) fun _ => True) := fun u gd h => by
    have := h.load
    rw [sti_load (by omega), say_zero, say_zero] at this
    exact this
  have HS1 : Hid (∀ u gd, Held w u gd (Sti 2 fun _ => some fun _ => 0) (fun _ => True) → Calls Try.prog 25 #[.pointer (some ⟨gd, 0, none⟩), .int .u32 1] u fun e w' => e = .returned (.int .i64 0) ∧ Held w w' gd (Sti 2 (setT (fun _ => some fun _ => 0) 1 (some (rootF 1)))) fun _ => True) := fun u gd h => by
    have := h.save (Nat.zero_le _) 1 (by decide)
    rw [sti_save (by omega) (by decide)] at this
    exact this
  have HUP : Hid (∀ u gd T, Held w u gd (Sti 2 T) (fun _ => True) → Calls Try.prog 18 #[.pointer (some ⟨gd, 0, none⟩), .slice none 0 0] u fun e w' => e = .returned (.tuple #[]) ∧ Held w w' gd (Sti 2 T) fun _ => True) := fun u gd T h => by
    have := h.up (Nat.zero_le _) none 0 0 (fun _ => 0) Rd.zero (fun j hj => absurd hj (by omega)) (by omega) (by omega)
    rw [sti_up] at this
    exact this
  have HL1 : Hid (∀ u gd, Held w u gd (Sti 2 (setT (fun _ => some fun _ => 0) 1 (some (rootF 1)))) (fun _ => True) → Calls Try.prog 31 #[.pointer (some ⟨gd, 0, none⟩)] u fun e w' => e = .returned (.tuple #[.int .u32 1, .int .i64 0]) ∧ Held w w' gd (Sti 2 (setT (fun _ => some fun _ => 0) 1 (some (rootF 1)))) fun _ => True) := fun u gd h => by
    have := h.load
    have e0 : setT (fun _ => some fun _ => 0) 1 (some (rootF 1)) 0 = some fun _ => 0 := rfl
    have e1 : setT (fun _ => some fun _ => 0) 1 (some (rootF 1)) 1 = some (rootF 1) := rfl
    rw [sti_load (by omega), e0, e1, say_zero, say_root (by decide)] at this
    exact this
  have HS0 : Hid (∀ u gd T, Held w u gd (Sti 2 T) (fun _ => True) → Calls Try.prog 25 #[.pointer (some ⟨gd, 0, none⟩), .int .u32 0] u fun e w' => e = .returned (.int .i64 1) ∧ Held w w' gd (Sti 2 T) fun _ => True) := fun u gd T h => by
    have := h.save (Nat.zero_le _) 0 (by decide)
    rw [sti_save0 (.inr rfl)] at this
    exact this
  go_enter Try.func23, Try.ntmps23
  go_wp2_with (first
    | (go_at_call 12; refine HNEW.out.mono ?_; rintro e w1 ⟨gd, rfl, h1⟩; have H1 := Lib.hid h1; clear h1)
    | (have _t := H4; clear _t; go_at_call 31; refine (HL1.out _ _ H4.out).mono ?_; rintro e w5 ⟨rfl, h5⟩; have H5 := Lib.hid h5; clear h5)
    | (go_at_call 31; refine (HL0.out _ _ H1.out).mono ?_; rintro e w2 ⟨rfl, h2⟩; have H2 := Lib.hid h2; clear h2)
    | (have _t := H5; clear _t; go_at_call 25; refine (HS0.out _ _ _ H5.out).mono ?_; rintro e w6 ⟨rfl, h6⟩; have H6 := Lib.hid h6; clear h6)
    | (go_at_call 25; refine (HS1.out _ _ H2.out).mono ?_; rintro e w3 ⟨rfl, h3⟩; have H3 := Lib.hid h3; clear h3)
    | (go_at_call 18; refine (HUP.out _ _ _ H3.out).mono ?_; rintro e w4 ⟨rfl, h4⟩; have H4 := Lib.hid h4; clear h4))
  go_ret
  exact ⟨rfl, H6.out.bel⟩
end Go.Proofs.Yteeomidlnijfbaa

/- What a disk without a plan answers; the walk of DiskTorn. -/
namespace Go.Proofs.Yteeomidlnijfbaa
open Go.RowKit

theorem ok_free {S : DS} (hl : S.left = 0) : S.ok = true ∧ S.begun = S := by
  unfold DS.ok DS.begun
  rw [hl]
  exact ⟨rfl, rfl⟩
section
variable {w0 w w' : World} {gd : Nat} {S S' : DS} {Φ Ψ : World → Prop}
end

end Go.Proofs.Yteeomidlnijfbaa

/- The walk of DiskStops. -/
namespace Go.Proofs.Yteeomidlnijfbaa
open Go.RowKit

theorem begun_more {S : DS} (h : 2 ≤ S.left) : S.ok = true ∧ S.begun = { S with left := S.left - 1 } := by
  unfold DS.ok DS.begun
  rw [if_neg (by omega), if_neg (by omega)]
  exact ⟨by simp; omega, rfl⟩
theorem begun_last {S : DS} (h : S.left = 1) : S.ok = false ∧ S.begun = { S with left := 0, gone := true } := by
  unfold DS.ok DS.begun
  rw [if_neg (by omega), if_pos h, h]
  exact ⟨rfl, rfl⟩
end Go.Proofs.Yteeomidlnijfbaa

/- Contract: Alike, of images of one disk. -/
namespace Go.Proofs.Yteeomidlnijfbaa
open Go.RowKit

theorem seco_both {R R' : Nat → Prop} {w : World} {u v : Value} {s t : Option (Nat → Nat)} (hu : SecO R w u s) (hv : SecO R' w v t) (hst : SameO s t) :
    ∃ A c B d m f, u = .slice A m c ∧ v = .slice B m d ∧ m ≤ 64 ∧ Rd .u8 w A m f ∧ Rd .u8 w B m f := by
  cases s with
  | none =>
    cases t with
    | none => exact ⟨none, 0, none, 0, 0, fun _ => 0, hu, hv, by omega, Rd.zero, Rd.zero⟩
    | some g => exact hst.elim
  | some f =>
    cases t with
    | none => exact hst.elim
    | some g =>
      obtain ⟨g1, o1, c1, rfl, _, _, hr1, _⟩ := Sec.rd hu
      obtain ⟨g2, o2, c2, rfl, _, _, hr2, _⟩ := Sec.rd hv
      exact ⟨_, c1, _, c2, 64, f, rfl, rfl, Nat.le_refl _, hr1, hr2.congr fun j hj => (hst j hj).symm⟩
set_option maxRecDepth 100000 in
set_option maxHeartbeats 2000000 in
theorem alike_yes {G G' : Nat → Prop} {w : World} {u v : Value} {n : Nat} {T U : Nat → Option (Nat → Nat)} (hu : Img G w u n T) (hv : Img G' w v n U) (hn : n ≤ 512) (hTU : ∀ i, i < n → SameO (T i) (U i)) :
    Calls Try.prog 19 #[u, v] w fun e w' => e = .returned (.bool true) ∧ Below w.heap.size w w' := by
  obtain ⟨ga, ca, VA, rfl, hca, _, hga, hra, hsa⟩ := hu
  obtain ⟨gb, cb, VB, rfl, hcb, _, hgb, hrb, hsb⟩ := hv
  have HRA := Lib.hid hra
  have HRB := Lib.hid hrb
  have HSB := Lib.hid (fun i hi => seco_both (hsa i hi) (hsb i hi) (hTU i hi))
  clear hra hrb hsa hsb hTU
  go_enter Try.func19, Try.ntmps19
  go_wp2
  go_loopw [5] (fun x wr => ∃ k : Nat, k ≤ n ∧ x = .int .i64 k ∧ Below w.heap.size w wr) (fun x _ => n - (intOf x).toNat)
  case atStart => exact ⟨0, Nat.zero_le _, rfl, Below.refl _ _⟩
  case round =>
    obtain ⟨k, hk, rfl, hbl⟩ := hrel
    have HBL := Lib.hid hbl
    by_cases hlt : k < n
    · obtain ⟨A, c, B, d, m, f, e1, e2, hm, hr1, hr2⟩ := HSB.out k hlt
      have HR1 := Lib.hid (hr1.below hbl)
      have HR2 := Lib.hid (hr2.below hbl)
      have z1 := (HRA.out.of_block (hbl.block ga hga)).cell (i := k) (by omega)
      have z2 := (HRB.out.of_block (hbl.block gb hgb)).cell (i := k) (by omega)
      rw [e1] at z1
      rw [e2] at z2
      clear e1 e2 hr1 hr2 hbl
      have i0 : (0 : Int) ≤ (k : Int) := by omega
      have i1 : (k : Int) < (n : Int) := by omega
      go_wp2
      go_quiet (fail)
      go_wp2
      go_loopw [6] (fun x wq => ∃ j : Nat, j ≤ m ∧ x = .int .i64 j ∧ Below wr.heap.size wr wq) (fun x _ => m - (intOf x).toNat)
      case atStart => exact ⟨0, Nat.zero_le _, rfl, Below.drewN_ (Below.refl _ _) _⟩
      case round =>
        obtain ⟨j, hj, rfl, hbq⟩ := hrel
        have z3 := cell_later hbq z1
        have z4 := cell_later hbq z2
        have HBQ := Lib.hid hbq
        by_cases hjm : j < m
        · obtain ⟨a1, rfl, y1⟩ := (HR1.out.below hbq) j hjm
          obtain ⟨a2, rfl, y2⟩ := (HR2.out.below hbq) j hjm
          clear hbq z1 z2
          go_wp2
          go_quiet (fail)
          go_wp2
          go_roundw
          case rel => exact ⟨j + 1, by omega, by go_num, Below.drewN_ HBQ.out _⟩
          case measure => simp [intOf]; omega
        · obtain rfl : j = m := by omega
          clear hbq z1 z2
          go_wp2
          go_roundw
          case rel => exact ⟨k + 1, by omega, by go_num, bbt HBL.out HBQ.out⟩
          case measure => simp [intOf]; omega
    · obtain rfl : k = n := by omega
      clear hbl
      go_wp2
      go_ret
      exact ⟨rfl, HBL.out⟩
end Go.Proofs.Yteeomidlnijfbaa
