/- Contract: says. -/
import Derived.Test.YteeomidlnijfbaaPOa
namespace Go.Proofs.Yteeomidlnijfbaa
open Go.RowKit
set_option linter.unusedSimpArgs false
set_option linter.unusedVariables false

/-- The generation that a sector's bytes say; whether they are its root's, in this sector. -/
def rootG (f : Nat → Nat) : Nat := num 256 (fun j => f (4 + j)) 4
def rootAt (i : Nat) (f : Nat → Nat) : Prop := (∀ j, j < 64 → f j = rootF (rootG f) j) ∧ rootG f % 2 = i
open Classical in
noncomputable def sayN (i : Nat) : Option (Nat → Nat) → Nat
  | none => 0
  | some f => if rootAt i f then rootG f else 0
theorem rootG_lt {f : Nat → Nat} (hf : ∀ j, j < 64 → f j < 256) : rootG f < 4294967296 := by
  have := num_lt (B := 256) (f := fun j => f (4 + j)) (by decide) 4 fun j hj => hf _ (by omega)
  exact this
theorem decP_congr {f h : Nat → Nat} (he : ∀ j, j < 64 → f j = h j) (hd : decP 64 h) : decP 64 f := by
  obtain ⟨_, d2, d3, d4, d5⟩ := hd
  refine ⟨rfl, ?_, by rw [he 14 (by omega)]; exact d3, by rw [he 12 (by omega), he 13 (by omega), he 14 (by omega)]; exact d4, fun j h1 h2 => ?_⟩
  · rw [← d2]
    unfold OpenB
    rw [num_congr 4 fun j hj => he j (by omega), crcN_congr (n := 60) fun j hj => he (4 + j) (by omega)]
  · rw [he 14 (by omega)] at h1
    rw [he j h2]
    exact d5 j h1 h2
theorem root_dec {f : Nat → Nat} {i : Nat} (hf : ∀ j, j < 64 → f j < 256) (h : rootAt i f) : decP 64 f := by
  refine decP_congr h.1 ?_
  exact (sect_dec (g := rootG f) (s := 0) (p := 0) (q := 1) (n := 4) (f := rootW) (rootG_lt hf) (by omega) root_may rootW_lt).1
def SaysPost (w w' : World) (e : Ending) (i : Nat) (o : Option (Nat → Nat)) : Prop := e = .returned (.int .u32 (sayN i o : Nat)) ∧ Below w.heap.size w w'
set_option maxRecDepth 100000 in
set_option maxHeartbeats 2000000 in
theorem says_none (w : World) (i : Nat) : Calls Try.prog 58 #[.int .i64 (i : Nat), .slice none 0 0] w fun e w' => SaysPost w w' e i none := by
  have HD := Lib.hid (decode_ino (w := w) (v := .slice none 0 0) (m := 0) (h := fun _ => 0) ⟨none, 0, rfl, Nat.le_refl _, Rd.zero, fun j hj => absurd hj (by omega)⟩ (by omega) (by rintro ⟨h, _⟩; cases h))
  go_enter Try.func58, Try.ntmps58
  go_wp2_with (go_at_call 72; refine HD.out.mono ?_; rintro e w2 ⟨rfl, hb⟩; have HB := Lib.hid hb; clear hb)
  go_ret
  exact ⟨rfl, bbt HB.out (below_new _ _)⟩
set_option maxRecDepth 100000 in
set_option maxHeartbeats 2000000 in
theorem says_some (w : World) (i : Nat) {A : Option Addr} {c : Nat} {f : Nat → Nat} (h : Byt w (.slice A 64 c) 64 f) : Calls Try.prog 58 #[.int .i64 (i : Nat), .slice A 64 c] w fun e w' => SaysPost w w' e i (some f) := by
  have hf : ∀ j, j < 64 → f j < 256 := fun j hj => h.lt j hj
  by_cases hd : decP 64 f
  · have HD : Hid (Calls Try.prog 72 #[.slice A 64 c] w fun e w' => (∃ (s : Nat) (p q : Int) (n : Nat) (B : Option Addr) (c' : Nat), e = .returned (.tuple #[cellV (rootG f) s p q B n c', .int .i64 0])) ∧ Below w.heap.size w w') := by
      refine (decode_by h (by omega)).mono ?_
      rintro e w' ⟨⟨_, B, c', rfl, _⟩ | ⟨h0, _⟩, hb⟩
      · exact ⟨⟨_, _, _, _, B, c', rfl⟩, hb⟩
      · exact absurd hd h0
    have hg := rootG_lt hf
    have HG : Hid (u32I ((rootG f : Nat) : Int)) := by show u32I _; unfold u32I; omega
    have HE := Lib.hid (fun u => encode_root (g := ((rootG f : Nat) : Int)) u HG.out)
    have HQ : Hid (∀ u v, Below w.heap.size w u → Byt u v 64 (rootF (rootG f)) → Calls Try.prog 73 #[.slice A 64 c, v] u fun e w' => (∃ b, e = .returned (.bool b) ∧ (b = true ↔ ∀ j, j < 64 → f j = rootF (rootG f) j)) ∧ u = w') := fun u v hu hv => by
      have hv2 := hv
      obtain ⟨B, d, rfl, _⟩ := hv2
      exact equal64 (h.below hu) hv
    have HS1 : Hid (rootAt i f → sayN i (some f) = rootG f) := fun h => if_pos h
    have HS0 : Hid (¬ rootAt i f → sayN i (some f) = 0) := fun h => if_neg h
    clear hd
    have HC : Hid (∀ (W : World) (s : Nat) (p q : Int) (n : Nat) (B : Option Addr) (c' : Nat) (u : World), Below (W.alloc (.cells #[.int .u32 (rootG f : Nat), .int .u32 (s : Nat), .int .i64 p, .int .i64 q, .slice B n c'] 97)).heap.size (W.alloc (.cells #[.int .u32 (rootG f : Nat), .int .u32 (s : Nat), .int .i64 p, .int .i64 q, .slice B n c'] 97)) u → u.cell? ⟨W.heap.size, 0, none⟩ = some (.int .u32 (rootG f : Nat))) := fun W s p q n B c' u hu => ((BoxC.new W (rootG f) s p q B n c').below hu).1
    have HH : Hid (∀ u : World, Calls Try.prog 52 #[.int .u32 ((rootG f : Nat) : Int)] u fun e w' => e = .returned (.int .i64 (rootG f % 2 : Nat)) ∧ u = w') := fun u => (home_any u HG.out).mono fun e w' h => ⟨by rw [h.1]; rfl, h.2⟩
    have HEN : Hid (∀ (W u u' : World) (o : Obj), Below w.heap.size w W → Below (W.alloc o).heap.size (W.alloc o) u → Below w.heap.size w u) := fun W u u' o h1 h2 => bbt (bbt h1 (below_new W o)) h2
    by_cases hm : rootG f % 2 = i
    · by_cases hq : ∀ j, j < 64 → f j = rootF (rootG f) j
      · have HSS := Lib.hid (HS1.out ⟨hq, hm⟩)
        have HQ : Hid (∀ u v, Below w.heap.size w u → Byt u v 64 (rootF (rootG f)) → Calls Try.prog 73 #[.slice A 64 c, v] u fun e w' => e = .returned (.bool true) ∧ u = w') := fun u v hu hv => by
          obtain ⟨B, d, rfl, _⟩ := id hv
          refine (equal64 (h.below hu) hv).mono ?_
          rintro e w' ⟨⟨b, rfl, hb⟩, rfl⟩
          exact ⟨by rw [hb.2 hq], rfl⟩
        rw [hm] at HH
        clear h hf hg hq hm HS1 HS0
        generalize rootG f = g at *
        have hgr : ((g : Nat) : Int).toNat = g := Int.toNat_natCast g
        rw [hgr] at HE
        clear hgr
        go_enter Try.func58, Try.ntmps58
        go_wp2_with (first
          | (go_at_call 72; refine HD.out.mono ?_; rintro e w2 ⟨⟨s, p, q, n, B, c', rfl⟩, hb⟩; have HB := Lib.hid hb; have c0 := HC.out w2 s p q n B c' _ (Below.refl _ _); clear hb)
          | (go_at_call 52; refine (HH.out _).mono ?_; rintro e w3 ⟨rfl, rfl⟩)
          | (go_at_call 51; refine (HE.out _).mono ?_; rintro e w4 ⟨⟨v4, rfl, hv4⟩, hb4⟩; have HV4 := Lib.hid hv4; have HB4 := Lib.hid (bbt (bbt HB.out (below_new _ _)) hb4); clear c0; have c0 := HC.out w2 s p q n B c' _ hb4; clear hb4 hv4)
          | (go_at_call 73; refine (HQ.out _ _ HB4.out HV4.out).mono ?_; rintro e w5 ⟨rfl, rfl⟩))
        go_ret
        exact ⟨by rw [HSS.out]; rfl, HB4.out⟩
      · have HSS := Lib.hid (HS0.out fun e => hq e.1)
        have HQ : Hid (∀ u v, Below w.heap.size w u → Byt u v 64 (rootF (rootG f)) → Calls Try.prog 73 #[.slice A 64 c, v] u fun e w' => e = .returned (.bool false) ∧ u = w') := fun u v hu hv => by
          obtain ⟨B, d, rfl, _⟩ := id hv
          refine (equal64 (h.below hu) hv).mono ?_
          rintro e w' ⟨⟨b, rfl, hb⟩, rfl⟩
          refine ⟨?_, rfl⟩
          cases b
          · rfl
          · exact absurd (hb.1 rfl) hq
        rw [hm] at HH
        clear h hf hg hq hm HS1 HS0
        generalize rootG f = g at *
        have hgr : ((g : Nat) : Int).toNat = g := Int.toNat_natCast g
        rw [hgr] at HE
        clear hgr
        go_enter Try.func58, Try.ntmps58
        go_wp2_with (first
          | (go_at_call 72; refine HD.out.mono ?_; rintro e w2 ⟨⟨s, p, q, n, B, c', rfl⟩, hb⟩; have HB := Lib.hid hb; have c0 := HC.out w2 s p q n B c' _ (Below.refl _ _); clear hb)
          | (go_at_call 52; refine (HH.out _).mono ?_; rintro e w3 ⟨rfl, rfl⟩)
          | (go_at_call 51; refine (HE.out _).mono ?_; rintro e w4 ⟨⟨v4, rfl, hv4⟩, hb4⟩; have HV4 := Lib.hid hv4; have HB4 := Lib.hid (bbt (bbt HB.out (below_new _ _)) hb4); clear c0; have c0 := HC.out w2 s p q n B c' _ hb4; clear hb4 hv4)
          | (go_at_call 73; refine (HQ.out _ _ HB4.out HV4.out).mono ?_; rintro e w5 ⟨rfl, rfl⟩))
        go_ret
        exact ⟨by rw [HSS.out]; rfl, HB4.out⟩
    · have HSS := Lib.hid (HS0.out fun e => hm e.2)
      have hm1 : ((((rootG f % 2 : Nat) : Int)) == ((i : Nat) : Int)) = false := by rw [beq_eq_false_iff_ne]; omega
      clear h hf hg hm HS1 HS0 HQ
      generalize rootG f % 2 = g2 at *
      generalize rootG f = g at *
      go_enter Try.func58, Try.ntmps58
      go_wp2_with (first
        | (go_at_call 72; refine HD.out.mono ?_; rintro e w2 ⟨⟨s, p, q, n, B, c', rfl⟩, hb⟩; have HB := Lib.hid hb; have c0 := HC.out w2 s p q n B c' _ (Below.refl _ _); clear hb)
        | (go_at_call 52; refine (HH.out _).mono ?_; rintro e w3 ⟨rfl, rfl⟩))
      go_ret
      exact ⟨by rw [HSS.out]; rfl, bbt HB.out (below_new _ _)⟩
  · have HD := Lib.hid (decode_ino h (by omega) hd)
    have HS : Hid (sayN i (some f) = 0) := if_neg fun e => hd (root_dec hf e)
    clear h
    go_enter Try.func58, Try.ntmps58
    go_wp2_with (go_at_call 72; refine HD.out.mono ?_; rintro e w2 ⟨rfl, hb⟩; have HB := Lib.hid hb; clear hb)
    go_ret
    exact ⟨by rw [HS.out]; rfl, bbt HB.out (below_new _ _)⟩
end Go.Proofs.Yteeomidlnijfbaa
