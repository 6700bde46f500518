/- Contract: says. -/
import Derived.Test.YtmcbmbcfgefocaaPOa
namespace Go.Proofs.Ytmcbmbcfgefocaa
open Go.RowKit
set_option linter.unusedSimpArgs false
set_option linter.unusedVariables false

/-- The generation that a sector's bytes say; whether they are its root's, in this sector. -/
def rootG (f : Nat → Nat) : Nat := num 256 (fun j => f (4 + j)) 4
def rootAt (i : Nat) (f : Nat → Nat) : Prop := (∀ j, j < 64 → f j = rootF (rootG f) j) ∧ rootG f % 2 = i
open Classical in
noncomputable def sayN (i : Nat) : Option (Nat → Nat) → Nat
  | none => 0
  | some f => if rootAt i f then rootG f else 0
theorem rootG_lt {f : Nat → Nat} (hf : ∀ j, j < 64 → f j < 256) : rootG f < 4294967296 := by
  have := num_lt (B := 256) (f := fun j => f (4 + j)) (by decide) 4 fun j hj => hf _ (by omega)
  exact this
theorem decP_congr {f h : Nat → Nat} (he : ∀ j, j < 64 → f j = h j) (hd : decP 64 h) : decP 64 f := by
  obtain ⟨_, d2, d3, d4, d5⟩ := hd
  refine ⟨rfl, ?_, by rw [he 14 (by omega)]; exact d3, by rw [he 12 (by omega), he 13 (by omega), he 14 (by omega)]; exact d4, fun j h1 h2 => ?_⟩
  · rw [← d2]
    unfold OpenB
    rw [num_congr 4 fun j hj => he j (by omega), crcN_congr (n := 60) fun j hj => he (4 + j) (by omega)]
  · rw [he 14 (by omega)] at h1
    rw [he j h2]
    exact d5 j h1 h2
theorem root_dec {f : Nat → Nat} {i : Nat} (hf : ∀ j, j < 64 → f j < 256) (h : rootAt i f) : decP 64 f := by
  refine decP_congr h.1 ?_
  exact (sect_dec (g := rootG f) (s := 0) (p := 0) (q := 1) (n := 4) (f := rootW) (rootG_lt hf) (by omega) root_may rootW_lt).1
def SaysPost (w w' : World) (e : Ending) (i : Nat) (o : Option (Nat → Nat)) : Prop := e = .returned (.int .u32 (sayN i o : Nat)) ∧ Below w.heap.size w w'
set_option maxRecDepth 100000 in
set_option maxHeartbeats 2000000 in
theorem says_none (w : World) (i : Nat) : Calls Try.prog 60 #[.int .i64 (i : Nat), .slice none 0 0] w fun e w' => SaysPost w w' e i none := by
  have HD := Lib.hid (decode_ino (w := w) (v := .slice none 0 0) (m := 0) (h := fun _ => 0) ⟨none, 0, rfl, Nat.le_refl _, Rd.zero, fun j hj => absurd hj (by omega)⟩ (by omega) (by rintro ⟨h, _⟩; cases h))
  go_enter Try.func60, Try.ntmps60
  go_wp2_with (go_at_call 68; refine HD.out.mono ?_; rintro e w2 ⟨rfl, hb⟩; have HB := Lib.hid hb; clear hb)
  go_ret
  exact ⟨rfl, bbt HB.out (below_new _ _)⟩
set_option maxRecDepth 100000 in
set_option maxHeartbeats 2000000 in
theorem says_some (w : World) (i : Nat) {A : Option Addr} {c : Nat} {f : Nat → Nat} (h : Byt w (.slice A 64 c) 64 f) : Calls Try.prog 60 #[.int .i64 (i : Nat), .slice A 64 c] w fun e w' => SaysPost w w' e i (some f) := by
  have hf : ∀ j, j < 64 → f j < 256 := fun j hj => h.lt j hj
  by_cases hd : decP 64 f
  · have HD : Hid (Calls Try.prog 68 #[.slice A 64 c] w fun e w' => (∃ (s : Nat) (p q : Int) (n : Nat) (B : Option Addr) (c' : Nat), e = .returned (.tuple #[cellV (rootG f) s p q B n c', .int .i64 0])) ∧ Below w.heap.size w w') := by
      refine (decode_by h (by omega)).mono ?_
      rintro e w' ⟨⟨_, B, c', rfl, _⟩ | ⟨h0, _⟩, hb⟩
      · exact ⟨⟨_, _, _, _, B, c', rfl⟩, hb⟩
      · exact absurd hd h0
    have hg := rootG_lt hf
    have HG : Hid (u32I ((rootG f : Nat) : Int)) := by show u32I _; unfold u32I; omega
    have HE := Lib.hid (fun u => encode_root (g := ((rootG f : Nat) : Int)) u HG.out)
    have HQ : Hid (∀ u v, Below w.heap.size w u → Byt u v 64 (rootF (rootG f)) → Calls Try.prog 69 #[.slice A 64 c, v] u fun e w' => (∃ b, e = .returned (.bool b) ∧ (b = true ↔ ∀ j, j < 64 → f j = rootF (rootG f) j)) ∧ u = w') := fun u v hu hv => by
      have hv2 := hv
      obtain ⟨B, d, rfl, _⟩ := hv2
      exact equal64 (h.below hu) hv
    have HS1 : Hid (rootAt i f → sayN i (some f) = rootG f) := fun h => if_pos h
    have HS0 : Hid (¬ rootAt i f → sayN i (some f) = 0) := fun h => if_neg h
    clear hd
    have HC : Hid (∀ (W : World) (s : Nat) (p q : Int) (n : Nat) (B : Option Addr) (c' : Nat) (u : World), Below (W.alloc (.cells #[.int .u32 (rootG f : Nat), .int .u32 (s : Nat), .int .i64 p, .int .i64 q, .slice B n c'] 106)).heap.size (W.alloc (.cells #[.int .u32 (rootG f : Nat), .int .u32 (s : Nat), .int .i64 p, .int .i64 q, .slice B n c'] 106)) u → u.cell? ⟨W.heap.size, 0, none⟩ = some (.int .u32 (rootG f : Nat))) := fun W s p q n B c' u hu => ((BoxC.new W (rootG f) s p q B n c').below hu).1
    have HH : Hid (∀ u : World, Calls Try.prog 52 #[.int .u32 ((rootG f : Nat) : Int)] u fun e w' => e = .returned (.int .i64 (rootG f % 2 : Nat)) ∧ u = w') := fun u => (home_any u HG.out).mono fun e w' h => ⟨by rw [h.1]; rfl, h.2⟩
    have HEN : Hid (∀ (W u u' : World) (o : Obj), Below w.heap.size w W → Below (W.alloc o).heap.size (W.alloc o) u → Below w.heap.size w u) := fun W u u' o h1 h2 => bbt (bbt h1 (below_new W o)) h2
    by_cases hm : rootG f % 2 = i
    · by_cases hq : ∀ j, j < 64 → f j = rootF (rootG f) j
      · have HSS := Lib.hid (HS1.out ⟨hq, hm⟩)
        have HQ : Hid (∀ u v, Below w.heap.size w u → Byt u v 64 (rootF (rootG f)) → Calls Try.prog 69 #[.slice A 64 c, v] u fun e w' => e = .returned (.bool true) ∧ u = w') := fun u v hu hv => by
          obtain ⟨B, d, rfl, _⟩ := id hv
          refine (equal64 (h.below hu) hv).mono ?_
          rintro e w' ⟨⟨b, rfl, hb⟩, rfl⟩
          exact ⟨by rw [hb.2 hq], rfl⟩
        rw [hm] at HH
        clear h hf hg hq hm HS1 HS0
        generalize rootG f = g at *
        have hgr : ((g : Nat) : Int).toNat = g := Int.toNat_natCast g
        rw [hgr] at HE
        clear hgr
        go_enter Try.func60, Try.ntmps60
        go_wp2_with (first
          | (go_at_call 68; refine HD.out.mono ?_; rintro e w2 ⟨⟨s, p, q, n, B, c', rfl⟩, hb⟩; have HB := Lib.hid hb; have c0 := HC.out w2 s p q n B c' _ (Below.refl _ _); clear hb)
          | (go_at_call 52; refine (HH.out _).mono ?_; rintro e w3 ⟨rfl, rfl⟩)
          | (go_at_call 51; refine (HE.out _).mono ?_; rintro e w4 ⟨⟨v4, rfl, hv4⟩, hb4⟩; have HV4 := Lib.hid hv4; have HB4 := Lib.hid (bbt (bbt HB.out (below_new _ _)) hb4); clear c0; have c0 := HC.out w2 s p q n B c' _ hb4; clear hb4 hv4)
          | (go_at_call 69; refine (HQ.out _ _ HB4.out HV4.out).mono ?_; rintro e w5 ⟨rfl, rfl⟩))
        go_ret
        exact ⟨by rw [HSS.out]; rfl, HB4.out⟩
      · have HSS := Lib.hid (HS0.out fun e => hq e.1)
        have HQ : Hid (∀ u v, Below w.heap.size w u → Byt u v 64 (rootF (rootG f)) → Calls Try.prog 69 #[.slice A 64 c, v] u fun e w' => e = .returned (.bool false) ∧ u = w') := fun u v hu hv => by
          obtain ⟨B, d, rfl, _⟩ := id hv
          refine (equal64 (h.below hu) hv).mono ?_
          rintro e w' ⟨⟨b, rfl, hb⟩, rfl⟩
          refine ⟨?_, rfl⟩
          cases b
          · rfl
          · exact absurd (hb.1 rfl) hq
        rw [hm] at HH
        clear h hf hg hq hm HS1 HS0
        generalize rootG f = g at *
        have hgr : ((g : Nat) : Int).toNat = g := Int.toNat_natCast g
        rw [hgr] at HE
        clear hgr
        go_enter Try.func60, Try.ntmps60
        go_wp2_with (first
          | (go_at_call 68; refine HD.out.mono ?_; rintro e w2 ⟨⟨s, p, q, n, B, c', rfl⟩, hb⟩; have HB := Lib.hid hb; have c0 := HC.out w2 s p q n B c' _ (Below.refl _ _); clear hb)
          | (go_at_call 52; refine (HH.out _).mono ?_; rintro e w3 ⟨rfl, rfl⟩)
          | (go_at_call 51; refine (HE.out _).mono ?_; rintro e w4 ⟨⟨v4, rfl, hv4⟩, hb4⟩; have HV4 := Lib.hid hv4; have HB4 := Lib.hid (bbt (bbt HB.out (below_new _ _)) hb4); clear c0; have c0 := HC.out w2 s p q n B c' _ hb4; clear hb4 hv4)
          | (go_at_call 69; refine (HQ.out _ _ HB4.out HV4.out).mono ?_; rintro e w5 ⟨rfl, rfl⟩))
        go_ret
        exact ⟨by rw [HSS.out]; rfl, HB4.out⟩
    · have HSS := Lib.hid (HS0.out fun e => hm e.2)
      have hm1 : ((((rootG f % 2 : Nat) : Int)) == ((i : Nat) : Int)) = false := by rw [beq_eq_false_iff_ne]; omega
      clear h hf hg hm HS1 HS0 HQ
      generalize rootG f % 2 = g2 at *
      generalize rootG f = g at *
      go_enter Try.func60, Try.ntmps60
      go_wp2_with (first
        | (go_at_call 68; refine HD.out.mono ?_; rintro e w2 ⟨⟨s, p, q, n, B, c', rfl⟩, hb⟩; have HB := Lib.hid hb; have c0 := HC.out w2 s p q n B c' _ (Below.refl _ _); clear hb)
        | (go_at_call 52; refine (HH.out _).mono ?_; rintro e w3 ⟨rfl, rfl⟩))
      go_ret
      exact ⟨by rw [HSS.out]; rfl, bbt HB.out (below_new _ _)⟩
  · have HD := Lib.hid (decode_ino h (by omega) hd)
    have HS : Hid (sayN i (some f) = 0) := if_neg fun e => hd (root_dec hf e)
    clear h
    go_enter Try.func60, Try.ntmps60
    go_wp2_with (go_at_call 68; refine HD.out.mono ?_; rintro e w2 ⟨rfl, hb⟩; have HB := Lib.hid hb; clear hb)
    go_ret
    exact ⟨by rw [HS.out]; rfl, bbt HB.out (below_new _ _)⟩
end Go.Proofs.Ytmcbmbcfgefocaa

/- Contract: both. -/
namespace Go.Proofs.Ytmcbmbcfgefocaa
open Go.RowKit
set_option linter.unusedSimpArgs false
set_option linter.unusedVariables false

/-- A box of two rows. -/
def Arr2 (u : World) (b : Nat) (X0 X1 : Value) : Prop := u.heap[b]? = some (.cells #[X0, X1] 98 (0, 0))
section
variable {u u' : World} {b : Nat} {X0 X1 : Value}
theorem Arr2.lt (h : Arr2 u b X0 X1) : b < u.heap.size := (Array.getElem?_eq_some_iff.1 h).1
theorem Arr2.cells (h : Arr2 u b X0 X1) : u.cell? ⟨b, 0, none⟩ = some X0 ∧ u.cell? ⟨b, 1, none⟩ = some X1 := by
  rw [cell_of_row _ _ 0 _ _ _ h, cell_of_row _ _ 1 _ _ _ h]
  exact ⟨rfl, rfl⟩
theorem Arr2.frozen (h : Arr2 u b X0 X1) (j : Nat) : u.frozen? ⟨b, j, none⟩ = false := frozen_of_row _ _ _ _ _ h
theorem Arr2.keep {B : Nat} (h : Arr2 u b X0 X1) (hb : Below B u u') (hB : b < B) : Arr2 u' b X0 X1 := (hb.block b hB).trans h
theorem Arr2.below (h : Arr2 u b X0 X1) (hb : Below u.heap.size u u') : Arr2 u' b X0 X1 := h.keep hb h.lt
theorem Arr2.set0 (h : Arr2 u b X0 X1) (v : Value) : Arr2 (u.setCell ⟨b, 0, none⟩ v) b v X1 := heap_setCell_same u b 0 _ _ v h
theorem Arr2.set1 (h : Arr2 u b X0 X1) (v : Value) : Arr2 (u.setCell ⟨b, 1, none⟩ v) b X0 v := heap_setCell_same u b 1 _ _ v h
theorem Arr2.other (h : Arr2 u b X0 X1) {a : Addr} (hn : b ≠ a.block) (v : Value) : Arr2 (u.setCell a v) b X0 X1 := (heap_setCell_other u a b v hn).trans h
end
/-- What is read of a sector: a row, or none. -/
def SlO (w : World) (v : Value) (o : Option (Nat → Nat)) : Prop := SecO Any w v o
theorem SlO.below {w w' : World} {v : Value} {o : Option (Nat → Nat)} (h : SlO w v o) (hb : Below w.heap.size w w') : SlO w' v o := SecO.keep (R := Any) (R' := Any) h (fun k _ hl => hb.block k hl) fun _ _ _ => trivial
/-- A row lies in no box of rows. -/
theorem SlO.other {w : World} {v : Value} {o : Option (Nat → Nat)} (h : SlO w v o) {b : Nat} {a0 : Option Addr} {n0 c0 : Nat} {a1 : Option Addr} {n1 c1 : Nat} (hb : Arr2 w b (.slice a0 n0 c0) (.slice a1 n1 c1)) (i : Nat) (x : Value) : SlO (w.setCell ⟨b, i, none⟩ x) v o := by
  cases o with
  | none => exact h
  | some f =>
    obtain ⟨g, o, c, rfl, h1, h2, hc, h4⟩ := (h : Sec Any w v f)
    have hne : g ≠ b := by
      rintro rfl
      have h0 := hc 0 (by omega)
      rw [cell_of_row _ _ _ _ _ _ hb] at h0
      match o, h0 with
      | 0, h0 => simp at h0
      | 1, h0 => simp at h0
      | o + 2, h0 => simp at h0
    exact ⟨g, o, c, rfl, h1, h2, fun j hj => (World.cell?_of_block (heap_setCell_other w _ g x hne)).trans (hc j hj), h4⟩
theorem oread_any {F : Nat → Prop} {w : World} {gd : Nat} {S : DS} (hd : DskAt F w gd S) (i : Int) : Calls Try.prog 67 #[.pointer (some ⟨gd, 0, none⟩), .int .i64 i] w fun e w' => ∃ a n c, e = .returned (.tuple #[.slice a n c, .int .i64 (S.read i).2]) ∧ SlO w' (.slice a n c) (S.read i).1 ∧ Below w.heap.size w w' := by
  obtain ⟨gt, gs, ct, cs, vp, xs, VT, VS, hd⟩ := hd
  refine (read_any hd i).mono ?_
  rintro e w' ⟨v, rfl, hv, hb⟩
  obtain ⟨a, n, c, rfl⟩ := hv.form
  exact ⟨a, n, c, rfl, hv.keep (fun _ _ _ => rfl) fun _ _ _ => trivial, hb⟩
def BothPost (w w' : World) (e : Ending) (S : DS) : Prop := (∃ a0 n0 c0 a1 n1 c1, e = .returned (.agg #[.slice a0 n0 c0, .slice a1 n1 c1]) ∧ SlO w' (.slice a0 n0 c0) (S.read 0).1 ∧ SlO w' (.slice a1 n1 c1) (S.read 1).1) ∧ Below w.heap.size w w'
set_option maxRecDepth 100000 in
set_option maxHeartbeats 2000000 in
theorem both_any {F : Nat → Prop} {w : World} {gd : Nat} {S : DS} (hd : DskAt F w gd S) : Calls Try.prog 59 #[.pointer (some ⟨gd, 0, none⟩)] w fun e w' => BothPost w w' e S := by
  have HR : Hid (∀ (u : World) (i : Int), Below w.heap.size w u → Calls Try.prog 67 #[.pointer (some ⟨gd, 0, none⟩), .int .i64 i] u fun e w' => ∃ a n c k, e = .returned (.tuple #[.slice a n c, .int .i64 k]) ∧ SlO w' (.slice a n c) (S.read i).1 ∧ Below u.heap.size u w') := fun u i hu => by
    refine (oread_any (hd.keep (fun k hk => hu.block k (hd.lt k hk)) hu.size) i).mono ?_
    rintro e w' ⟨a, n, c, rfl, h⟩
    exact ⟨a, n, c, _, rfl, h⟩
  have HA : Hid (Arr2 ((w.alloc (.cells #[.slice none 0 0, .slice none 0 0] 98)).alloc (.cells #[.slice none 0 0, .slice none 0 0] 98)) w.heap.size (.slice none 0 0) (.slice none 0 0) ∧ Arr2 ((w.alloc (.cells #[.slice none 0 0, .slice none 0 0] 98)).alloc (.cells #[.slice none 0 0, .slice none 0 0] 98)) (w.heap.size + 1) (.slice none 0 0) (.slice none 0 0) ∧ Below w.heap.size w ((w.alloc (.cells #[.slice none 0 0, .slice none 0 0] 98)).alloc (.cells #[.slice none 0 0, .slice none 0 0] 98))) := ⟨heap_alloc2_old _ _ _, heap_alloc2_new _ _ _, bbt (below_new _ _) (below_new _ _)⟩
  clear hd
  go_enter Try.func59, Try.ntmps59
  go_wp2
  go_loopw [5] (fun x5 wr => ∃ (k : Nat) (a0 : Option Addr) (n0 c0 : Nat) (a1 : Option Addr) (n1 c1 : Nat), k ≤ 2 ∧ x5 = .int .i64 (k : Nat) ∧ Below w.heap.size w wr ∧ Arr2 wr w.heap.size (.slice none 0 0) (.slice none 0 0) ∧ Arr2 wr (w.heap.size + 1) (.slice a0 n0 c0) (.slice a1 n1 c1) ∧ (1 ≤ k → SlO wr (.slice a0 n0 c0) (S.read 0).1) ∧ (2 ≤ k → SlO wr (.slice a1 n1 c1) (S.read 1).1)) (fun x5 _ => 2 - (intOf x5).toNat)
  case atStart => exact ⟨0, none, 0, 0, none, 0, 0, by omega, rfl, HA.out.2.2, HA.out.1, HA.out.2.1, fun h => by omega, fun h => by omega⟩
  case round =>
    obtain ⟨k, a0, n0, c0, a1, n1, c1, hk, rfl, hb, hx0, hx1, hs0, hs1⟩ := hrel
    have HB := Lib.hid hb
    have HX0 := Lib.hid hx0
    have HX1 := Lib.hid hx1
    have HS0 := Lib.hid hs0
    have HS1 := Lib.hid hs1
    clear hb hx0 hx1 hs0 hs1
    rcases (by omega : k = 0 ∨ k = 1 ∨ k = 2) with rfl | rfl | rfl
    · go_wp2_with (go_at_call 67; refine (HR.out _ _ HB.out).mono ?_; rintro e w3 ⟨a, n, c, kk, rfl, hs, hb3⟩; have HSS := Lib.hid hs; have HB3 := Lib.hid (bbt HB.out hb3); have hx3 := HX1.out.below hb3; have HX3 := Lib.hid hx3; have HY3 := Lib.hid (HX0.out.below hb3); obtain ⟨d0, d1⟩ := hx3.cells; have f0 := hx3.frozen 0; clear hs hb3 hx3)
      refine ⟨⟨1, a, n, c, a1, n1, c1, by omega, rfl, HB3.out.setCell (by show w.heap.size ≤ w.heap.size + 1; omega) _, HY3.out.other (by show w.heap.size ≠ w.heap.size + 1; omega) _, HX3.out.set0 _, fun _ => HSS.out.other HX3.out _ _, fun h => absurd h (by omega)⟩, by simp [intOf]⟩
    · go_wp2_with (go_at_call 67; refine (HR.out _ _ HB.out).mono ?_; rintro e w3 ⟨a, n, c, kk, rfl, hs, hb3⟩; have HSS := Lib.hid hs; have HB3 := Lib.hid (bbt HB.out hb3); have hx3 := HX1.out.below hb3; have HX3 := Lib.hid hx3; have HY3 := Lib.hid (HX0.out.below hb3); have HS3 := Lib.hid ((HS0.out (by omega)).below hb3); obtain ⟨d0, d1⟩ := hx3.cells; have f0 := hx3.frozen 1; clear hs hb3 hx3)
      refine ⟨⟨2, a0, n0, c0, a, n, c, by omega, rfl, HB3.out.setCell (by show w.heap.size ≤ w.heap.size + 1; omega) _, HY3.out.other (by show w.heap.size ≠ w.heap.size + 1; omega) _, HX3.out.set1 _, fun _ => HS3.out.other HX3.out _ _, fun _ => HSS.out.other HX3.out _ _⟩, by simp [intOf]⟩
    · obtain ⟨d0, d1⟩ := HX1.out.cells
      obtain ⟨e0, e1⟩ := HX0.out.cells
      have f0 := HX0.out.frozen 0
      have f1 := HX0.out.frozen 1
      have HA0 := Lib.hid ((HX0.out.set0 (.slice a0 n0 c0)).set1 (.slice a1 n1 c1))
      have HBB := Lib.hid (show Below w.heap.size w ((wr.setCell ⟨w.heap.size, 0, none⟩ (.slice a0 n0 c0)).setCell ⟨w.heap.size, 1, none⟩ (.slice a1 n1 c1)) from (HB.out.setCell (Nat.le_refl _) _).setCell (Nat.le_refl _) _)
      have HL0 := Lib.hid (((HS0.out (by omega)).other HX0.out 0 (.slice a0 n0 c0)).other (HX0.out.set0 _) 1 (.slice a1 n1 c1))
      have HL1 := Lib.hid (((HS1.out (by omega)).other HX0.out 0 (.slice a0 n0 c0)).other (HX0.out.set0 _) 1 (.slice a1 n1 c1))
      go_wp2
      refine bodyPost_ret (results_cell_row rfl _ _ w.heap.size _ _ _ _ rfl HA0.out Try.underlying98 rfl (by kernel_rfl)) rfl ?_
      exact ⟨⟨a0, n0, c0, a1, n1, c1, rfl, HL0.out, HL1.out⟩, HBB.out⟩
end Go.Proofs.Ytmcbmbcfgefocaa

/- Contract: Load. -/
namespace Go.Proofs.Ytmcbmbcfgefocaa
open Go.RowKit
set_option linter.unusedSimpArgs false
set_option linter.unusedVariables false

theorem osectors_any {F : Nat → Prop} {w : World} {gd : Nat} {S : DS} (h : DskAt F w gd S) : Calls Try.prog 42 #[.pointer (some ⟨gd, 0, none⟩)] w fun e w' => e = .returned (.int .i64 (S.n : Nat)) ∧ w = w' := by
  obtain ⟨_, _, _, _, _, _, _, _, h⟩ := h
  exact sectors_any h
theorem odown_any {F : Nat → Prop} {w : World} {gd : Nat} {S : DS} (h : DskAt F w gd S) : Calls Try.prog 54 #[.pointer (some ⟨gd, 0, none⟩)] w fun e w' => e = .returned (.bool S.gone) ∧ w = w' := by
  obtain ⟨_, _, _, _, _, _, _, _, h⟩ := h
  exact down_any h
theorem says_any {u : World} {a : Option Addr} {n c : Nat} {o : Option (Nat → Nat)} (i : Nat) (h : SlO u (.slice a n c) o) : Calls Try.prog 60 #[.int .i64 (i : Nat), .slice a n c] u fun e w' => SaysPost u w' e i o := by
  cases o with
  | none =>
    have h : Value.slice a n c = .slice none 0 0 := h
    cases h
    exact says_none u i
  | some f =>
    obtain ⟨g, o, c', e, h1, h2, hr, hf⟩ := Sec.rd (h : Sec Any u _ f)
    cases e
    exact says_some u i ⟨_, _, rfl, h1, hr, hf⟩
/-- What Load says. -/
noncomputable def DS.load (S : DS) : Nat × Int := if S.gone then (0, 4) else if S.n < 2 then (0, 1) else (max (sayN 0 (S.read 0).1) (sayN 1 (S.read 1).1), 0)
def LoadPost (w w' : World) (e : Ending) (S : DS) : Prop := e = .returned (.tuple #[.int .u32 (S.load.1 : Nat), .int .i64 S.load.2]) ∧ Below w.heap.size w w'
set_option maxRecDepth 100000 in
set_option maxHeartbeats 2000000 in
theorem load_any {F : Nat → Prop} {w : World} {gd : Nat} {S : DS} (hd : DskAt F w gd S) : Calls Try.prog 43 #[.pointer (some ⟨gd, 0, none⟩)] w fun e w' => LoadPost w w' e S := by
  have HDN := Lib.hid (odown_any hd)
  have HSC := Lib.hid (osectors_any hd)
  have HBO := Lib.hid (both_any hd)
  cases hg : S.gone with
  | true =>
    have HP : Hid (LoadPost w w (.returned (.tuple #[.int .u32 0, .int .i64 4])) S) := Lib.hid ⟨by simp [DS.load, hg], Below.refl _ _⟩
    rw [hg] at HDN
    clear hd hg
    go_enter Try.func43, Try.ntmps43
    go_wp2_with (go_at_call 54; refine HDN.out.mono ?_; rintro e w' ⟨rfl, rfl⟩)
    go_ret2
    exact HP.out
  | false =>
    rw [hg] at HDN
    by_cases hn : S.n < 2
    · have HP : Hid (LoadPost w w (.returned (.tuple #[.int .u32 0, .int .i64 1])) S) := Lib.hid ⟨by simp [DS.load, hg, hn], Below.refl _ _⟩
      have hn2 : (S.n : Int) < 2 := by omega
      clear hd hg
      go_enter Try.func43, Try.ntmps43
      go_wp2_with (first
        | (go_at_call 54; refine HDN.out.mono ?_; rintro e w' ⟨rfl, rfl⟩)
        | (go_at_call 42; refine HSC.out.mono ?_; rintro e w' ⟨rfl, rfl⟩))
      go_ret2
      exact HP.out
    · obtain ⟨s0, hs0⟩ : ∃ x, sayN 0 (S.read 0).1 = x := ⟨_, rfl⟩
      obtain ⟨s1, hs1⟩ : ∃ x, sayN 1 (S.read 1).1 = x := ⟨_, rfl⟩
      have HP : Hid (∀ w', Below w.heap.size w w' → LoadPost w w' (.returned (.tuple #[.int .u32 ((max s0 s1 : Nat) : Int), .int .i64 0])) S) := Lib.hid fun w' hb => ⟨by simp [DS.load, hg, hn, hs0, hs1], hb⟩
      have HSY : Hid (∀ (u : World) a n c (i k : Nat) o, SlO u (.slice a n c) o → sayN i o = k → Calls Try.prog 60 #[.int .i64 (i : Nat), .slice a n c] u fun e w' => e = .returned (.int .u32 (k : Nat)) ∧ Below u.heap.size u w') := fun u a n c i k o h hk => by
        subst hk
        exact says_any i h
      have HS0 := Lib.hid hs0
      have HS1 := Lib.hid hs1
      have hn2 : ¬ (S.n : Int) < 2 := by omega
      clear hd hg hs0 hs1 hn
      go_enter Try.func43, Try.ntmps43
      go_wp2_with (first
        | (go_at_call 54; refine HDN.out.mono ?_; rintro e w' ⟨rfl, rfl⟩)
        | (go_at_call 42; refine HSC.out.mono ?_; rintro e w' ⟨rfl, rfl⟩)
        | (go_at_call 59; refine HBO.out.mono ?_; rintro e w1 ⟨⟨a0, n0, c0, a1, n1, c1, rfl, h0, h1⟩, hb1⟩; have HL0 := Lib.hid (h0.below (below_new w1 (.cells #[.slice a0 n0 c0, .slice a1 n1 c1] 98))); have HL1 := Lib.hid (h1.below (below_new w1 (.cells #[.slice a0 n0 c0, .slice a1 n1 c1] 98))); have HB1 := Lib.hid (bbt hb1 (below_new w1 (.cells #[.slice a0 n0 c0, .slice a1 n1 c1] 98))); have HA1 : Hid (Arr2 (w1.alloc (.cells #[.slice a0 n0 c0, .slice a1 n1 c1] 98)) w1.heap.size (.slice a0 n0 c0) (.slice a1 n1 c1)) := heap_alloc_new _ _; clear h0 h1 hb1))
      go_loopw [5, 14] (fun x5 x14 wr => ∃ k : Nat, k ≤ 2 ∧ x14 = .int .i64 (k : Nat) ∧ x5 = .int .u32 ((if k = 0 then 0 else if k = 1 then s0 else max s0 s1 : Nat) : Int) ∧ Below (w1.alloc (.cells #[.slice a0 n0 c0, .slice a1 n1 c1] 98)).heap.size (w1.alloc (.cells #[.slice a0 n0 c0, .slice a1 n1 c1] 98)) wr) (fun x5 x14 _ => 2 - (intOf x14).toNat)
      case atStart => exact ⟨0, by omega, rfl, rfl, Below.refl _ _⟩
      case round =>
        obtain ⟨k, hk, rfl, rfl, hb⟩ := hrel
        have HB := Lib.hid hb
        have HLr0 := Lib.hid (HL0.out.below hb)
        have HLr1 := Lib.hid (HL1.out.below hb)
        have har := HA1.out.below hb
        have hlt := har.lt
        obtain ⟨d0, d1⟩ := har.cells
        clear hb har
        rcases (by omega : k = 0 ∨ k = 1 ∨ k = 2) with rfl | rfl | rfl
        · go_wp2_with (go_at_call 60; refine (HSY.out _ _ _ _ 0 s0 _ HLr0.out HS0.out).mono ?_; rintro e w3 ⟨rfl, hb3⟩; have HB3 := Lib.hid hb3; clear hb3)
          exact ⟨⟨1, by omega, rfl, rfl, bbt HB.out HB3.out⟩, by simp [intOf]⟩
        · go_wp2_with (go_at_call 60; refine (HSY.out _ _ _ _ 1 s1 _ HLr1.out HS1.out).mono ?_; rintro e w3 ⟨rfl, hb3⟩; have HB3 := Lib.hid hb3; clear hb3)
          exact ⟨⟨2, by omega, rfl, by rw [if_neg (by decide), if_neg (by decide)]; congr 1; omega, bbt HB.out HB3.out⟩, by simp [intOf]⟩
        · go_wp2
          go_ret2
          exact HP.out _ (bbt HB1.out HB.out)
end Go.Proofs.Ytmcbmbcfgefocaa
