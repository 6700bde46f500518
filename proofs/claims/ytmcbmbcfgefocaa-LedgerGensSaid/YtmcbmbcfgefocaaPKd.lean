/- Contract: Encode. -/
import Derived.Test.YtmcbmbcfgefocaaPKc
import Derived.StillTailTactics
import Derived.Shelf.Bytes.SlCountOne
namespace Go.Proofs.Ytmcbmbcfgefocaa
open Go.RowKit
set_option linter.unusedSimpArgs false
set_option linter.unusedVariables false

/-- A cell's parts, in a block of its own. -/
def BoxC (u : World) (b : Nat) (g s : Nat) (p q : Int) (A : Option Addr) (n c : Nat) : Prop :=
  u.cell? ⟨b, 0, none⟩ = some (.int .u32 (g : Nat)) ∧ u.cell? ⟨b, 1, none⟩ = some (.int .u32 (s : Nat)) ∧ u.cell? ⟨b, 2, none⟩ = some (.int .i64 p) ∧ u.cell? ⟨b, 3, none⟩ = some (.int .i64 q) ∧ u.cell? ⟨b, 4, none⟩ = some (.slice A n c)
section
variable {u u' : World} {b g s : Nat} {p q : Int} {A : Option Addr} {n c : Nat}
theorem BoxC.lt (h : BoxC u b g s p q A n c) : b < u.heap.size := block_lt_of_cell h.1
theorem BoxC.keep {B : Nat} (h : BoxC u b g s p q A n c) (hb : Below B u u') (hB : b < B) : BoxC u' b g s p q A n c := by
  obtain ⟨h0, h1, h2, h3, h4⟩ := h
  have k : ∀ j v, u.cell? ⟨b, j, none⟩ = some v → u'.cell? ⟨b, j, none⟩ = some v := fun j v hc => (hb.cell (p := ⟨b, j, none⟩) hB).trans hc
  exact ⟨k _ _ h0, k _ _ h1, k _ _ h2, k _ _ h3, k _ _ h4⟩
theorem BoxC.below (h : BoxC u b g s p q A n c) (hb : Below u.heap.size u u') : BoxC u' b g s p q A n c := h.keep hb h.lt
theorem BoxC.wr {G : Nat} (h : BoxC u b g s p q A n c) (hne : b ≠ G) (hb : Wr G u u') : BoxC u' b g s p q A n c := by
  obtain ⟨h0, h1, h2, h3, h4⟩ := h
  have k : ∀ j v, u.cell? ⟨b, j, none⟩ = some v → u'.cell? ⟨b, j, none⟩ = some v := fun j v hc => hb.cell hc (fun e => hne (Option.some.inj e))
  exact ⟨k _ _ h0, k _ _ h1, k _ _ h2, k _ _ h3, k _ _ h4⟩
theorem BoxC.drew (h : BoxC u b g s p q A n c) : BoxC u.drew b g s p q A n c := h
theorem BoxC.new (w : World) (g s : Nat) (p q : Int) (A : Option Addr) (n c : Nat) : BoxC (w.alloc (.cells #[.int .u32 (g : Nat), .int .u32 (s : Nat), .int .i64 p, .int .i64 q, .slice A n c] 106)) w.heap.size g s p q A n c := by
  have hh : (w.alloc (.cells #[.int .u32 (g : Nat), .int .u32 (s : Nat), .int .i64 p, .int .i64 q, .slice A n c] 106)).heap[w.heap.size]? = some (.cells #[.int .u32 (g : Nat), .int .u32 (s : Nat), .int .i64 p, .int .i64 q, .slice A n c] 106 (0, 0)) := heap_alloc_new w _
  unfold BoxC
  rw [cell_of_row _ _ 0 _ _ _ hh, cell_of_row _ _ 1 _ _ _ hh, cell_of_row _ _ 2 _ _ _ hh, cell_of_row _ _ 3 _ _ _ hh, cell_of_row _ _ 4 _ _ _ hh]
  exact ⟨rfl, rfl, rfl, rfl, rfl⟩
end

/-- What is sealed of a cell. -/
def bodyF (g s p q n : Nat) (f : Nat → Nat) : Nat → Nat := fun j => if j < 4 then g / 256 ^ j % 256 else if j < 8 then s / 256 ^ (j - 4) % 256 else if j = 8 then p else if j = 9 then q else if j = 10 then n else if j < 11 + n then f (j - 11) else 0
theorem body_is (g s p q n : Nat) (f : Nat → Nat) : splF (upd (upd (upd (putF (putF (fun _ => 0) 0 g 4) 4 s 4) 8 p) 9 q) 10 n) 11 n f = bodyF g s p q n f := by
  funext j
  unfold splF upd putF bodyF
  by_cases h1 : 11 ≤ j ∧ j < 11 + n
  · rw [if_pos h1, if_neg (by omega), if_neg (by omega), if_neg (by omega), if_neg (by omega), if_neg (by omega), if_pos (by omega)]
  · rw [if_neg h1]
    by_cases h10 : j = 10
    · subst h10; simp
    · rw [if_neg h10]
      by_cases h9 : j = 9
      · subst h9; simp
      · rw [if_neg h9]
        by_cases h8 : j = 8
        · subst h8; simp
        · rw [if_neg h8]
          by_cases h7 : 4 ≤ j ∧ j < 4 + 4
          · rw [if_pos h7, if_neg (by omega), if_pos (by omega)]
          · rw [if_neg h7]
            by_cases h6 : j < 4
            · rw [if_pos (by omega), if_pos h6]; rfl
            · rw [if_neg (by omega), if_neg h6, if_neg (by omega), if_neg h8, if_neg h9, if_neg h10, if_neg (by omega)]
theorem bodyF_lt {g s p q n : Nat} {f : Nat → Nat} (hp : p < 256) (hq : q < 256) (hn : n < 256) (hf : ∀ j, j < n → f j < 256) : ∀ j, j < 60 → bodyF g s p q n f j < 256 := fun j _ => by
  unfold bodyF
  split
  · omega
  split
  · omega
  split
  · exact hp
  split
  · exact hq
  split
  · exact hn
  split
  · exact hf _ (by omega)
  · omega
/-- A cell's sector. -/
def sectF (g s p q n : Nat) (f : Nat → Nat) : Nat → Nat := sealF (crcN (bodyF g s p q n f) 60) (bodyF g s p q n f)

set_option maxRecDepth 100000 in
set_option maxHeartbeats 2000000 in
theorem encode_yes (g s p q : Nat) (A : Option Addr) (n c : Nat) (f : Nat → Nat) (w : World) (hg : g < 4294967296) (hs : s < 4294967296) (hr : Rd .u8 w A n f) (hf : ∀ j, j < n → f j < 256) (hm : mayP p q n) :
    Calls Try.prog 65 #[cellV g s p q A n c] w fun e w' => (∃ v, e = .returned (.tuple #[v, .int .i64 0]) ∧ Byt w' v 64 (sectF g s p q n f)) ∧ Below w.heap.size w w' := by
  have hm2 := hm
  unfold mayP at hm2
  obtain ⟨m1, m2, m3, m4, m5, m6, _⟩ := hm2
  have HM := Lib.hid (decide_eq_true hm)
  have HR := Lib.hid hr
  have HF := Lib.hid hf
  have HW := Lib.hid (below_new w (.cells #[.int .u32 (g : Nat), .int .u32 (s : Nat), .int .i64 p, .int .i64 q, .slice A n c] 106))
  have HBX := Lib.hid (BoxC.new w g s p q A n c)
  clear hm hr hf
  go_enter Try.func65, Try.ntmps65
  go_wp2_with (first
    | (go_at_call 73; refine (may_any g s p q A n c _ (by omega)).mono ?_; rintro e w1 ⟨rfl, hb1⟩; rw [HM.out]; have HB1 := Lib.hid hb1; clear hb1)
    | (at_make; refine wpList_make_row rfl _ _ 35 rfl .u8 5 Try.underlying35 1 u8_info (by omega) _ _ _ _ 60 rfl rfl (by omega) (by omega) (by omega) ?_; intro w2 hrow2 hb2 hs2))
  have HR2 := Lib.hid hrow2
  have HB2 := Lib.hid (bbt HW.out (bbt HB1.out hb2))
  have hw1 : w.heap.size < w1.heap.size := by have := HB1.out.size; simp at this; omega
  have HX2 := Lib.hid ((HBX.out.below HB1.out).below hb2)
  clear hrow2 hb2
  generalize hG : w1.heap.size = G at *
  have HG := Lib.hid hG
  clear hG
  obtain ⟨c0, c1, c2, c3, c4⟩ := HX2.out
  go_still_tail 4, (by kernel_rfl)
  change wpList _ _ _ _ _ w2.drew
  go_wp2_with (go_at_call 74; refine (put_any G 0 60 60 g _ _ _ HR2.out.drew (by omega) hg).mono ?_; rintro e w3 ⟨⟨v3, rfl⟩, hrow3, hw3, hs3⟩)
  have HR3 := Lib.hid hrow3
  have hww : w.heap.size ≠ G := by omega
  have HX3 := Lib.hid (HX2.out.drew.wr hww hw3)
  have HB3 := Lib.hid (hw3.below (Below.drew_ HB2.out) (by have := HB2.out.size; simpa using this) (by omega))
  have hs23 : w3.heap.size = w2.heap.size := hs3
  clear hrow3 hw3 hs3 c0 c1 c2 c3 c4
  obtain ⟨c0, c1, c2, c3, c4⟩ := HX3.out
  go_still_tail 4, (by kernel_rfl)
  change wpList _ _ _ _ _ w3.drew
  go_wp2_with (go_at_call 74; refine (put_any G 4 56 60 s _ _ _ HR3.out.drew (by omega) hs).mono ?_; rintro e w4 ⟨⟨v4, rfl⟩, hrow4, hw4, hs4⟩; have HR4 := Lib.hid hrow4; have HX4 := Lib.hid (HX3.out.drew.wr hww hw4); have HB4 := Lib.hid (hw4.below (Below.drew_ HB3.out) (by have := HB3.out.size; simpa using this) (by omega)); clear hrow4 hw4 c0 c1 c2 c3 c4; obtain ⟨c0, c1, c2, c3, c4⟩ := HX4.out; have r8 := HR4.out.cell (j := 8) (by omega); have r9 := HR4.out.cell (j := 9) (by omega); have r10 := HR4.out.cell (j := 10) (by omega); have z8 := HR4.out.frozen 8; have z9 := HR4.out.frozen 9; have z10 := HR4.out.frozen 10; have hGl := HR4.out.lt)
  have HR5 := Lib.hid (((HR4.out.set_ 8 p).set_ 9 q).set_ 10 n)
  have hw5 : Wr G w4 (((w4.setCell ⟨G, 8, none⟩ (.int .u8 (p : Nat))).setCell ⟨G, 9, none⟩ (.int .u8 (q : Nat))).setCell ⟨G, 10, none⟩ (.int .u8 (n : Nat))) := ((Wr.set_ _ _ _ _).setCell _ _).setCell _ _
  have HX5 := Lib.hid (HX4.out.wr hww hw5)
  have HB5 := Lib.hid (hw5.below HB4.out (by have := HB4.out.size; omega) (by omega))
  clear c0 c1 c2 c3 c4 r8 r9 r10 z8 z9 z10 hw5
  generalize (((w4.setCell ⟨G, 8, none⟩ (.int .u8 (p : Nat))).setCell ⟨G, 9, none⟩ (.int .u8 (q : Nat))).setCell ⟨G, 10, none⟩ (.int .u8 (n : Nat))) = w5 at *
  obtain ⟨c0, c1, c2, c3, c4⟩ := HX5.out
  have hrd5 : Rd .u8 w5.drew A n f := (HR.out.keep (B := w.heap.size) (fun ad he => by
    subst he
    obtain ⟨ad', e1, hl⟩ := HR.out.some_ (by omega)
    injection e1 with e1
    subst e1
    exact hl) HB5.out).drew
  have HRD5 := Lib.hid hrd5
  clear hrd5
  go_still_tail 4, (by kernel_rfl)
  change wpList _ _ _ _ _ w5.drew
  refine wpList_copy_rd rfl (.tmp 36) (.tmp 38) 35 35 rfl 5 Try.underlying35 (by kernel_rfl) .u8 G 11 49 49 A n c rfl rfl 5 60 _ HR5.out.drew f n (Nat.min_eq_left m6).symm HRD5.out (by omega) ?_
  intro w6 hrow6 hw6 hs6
  go_wp2_with ((go_at_call 75; refine (seal_any (some ⟨G, 0, none⟩) 60 60 (bodyF g s p q n f) _ (by rw [body_is] at hrow6; exact hrow6.rd0 (Nat.le_refl _)) (bodyF_lt (by omega) (by omega) (by omega) HF.out) (by omega) (fun h => by cases h)).mono ?_; rintro e w7 ⟨v7, rfl, hv7, hb7⟩))
  go_ret2
  exact ⟨⟨v7, rfl, hv7⟩, (hw6.below (Below.drew_ HB5.out) (by have := HB5.out.size; simpa using this) (by omega)).trans (hb7.mono (by have := HB5.out.size; simp at hs6; omega))⟩
end Go.Proofs.Ytmcbmbcfgefocaa

/- Contract: whether all bytes are 0. -/
namespace Go.Proofs.Ytmcbmbcfgefocaa
open Go.RowKit
set_option linter.unusedSimpArgs false
set_option linter.unusedVariables false

/-- The bytes as the library counts them. -/
def intsOf (f : Nat → Nat) (n : Nat) : List Int := (List.range n).map fun j => (f j : Int)
def zerosN (f : Nat → Nat) (n : Nat) : Nat := Lib.countByte (Lib.bytesOf (intsOf f n)) 0
theorem zerosN_le (f : Nat → Nat) (n : Nat) : zerosN f n ≤ n := by
  unfold zerosN Lib.countByte
  refine Nat.le_trans List.count_le_length ?_
  simp [Lib.bytesOf, intsOf]
theorem zerosN_iff {f : Nat → Nat} {n : Nat} (hf : ∀ j, j < n → f j < 256) : zerosN f n = n ↔ ∀ j, j < n → f j = 0 := by
  have hl : (Lib.bytesOf (intsOf f n)).length = n := by simp [Lib.bytesOf, intsOf]
  unfold zerosN Lib.countByte
  have h := List.count_eq_length (a := (0 : UInt8)) (l := Lib.bytesOf (intsOf f n))
  rw [hl] at h
  rw [h]
  constructor
  · intro h j hj
    have := h (UInt8.ofNat (f j)) (by simp [Lib.bytesOf, intsOf]; exact ⟨j, hj, rfl⟩)
    have h2 := congrArg UInt8.toNat this
    have h3 := hf j hj
    simp at h2
    omega
  · intro h b hb
    simp [Lib.bytesOf, intsOf] at hb
    obtain ⟨j, hj, rfl⟩ := hb
    rw [h j hj]
    rfl

set_option maxRecDepth 100000 in
set_option maxHeartbeats 2000000 in
set_option maxRecDepth 100000 in
theorem count_any (ad sd : Addr) (n c d : Nat) (f : Nat → Nat) (w : World) (hr : Rd .u8 w (some ad) n f) (hs : w.cell? sd = some (.int .u8 0)) (hsb : sd = ⟨sd.block, 0, none⟩) :
    Calls Try.prog 85 #[.slice (some ad) n c, .slice (some sd) 1 d] w fun e w' => e = .returned (.int .i64 (zerosN f n : Nat)) ∧ w' = w := by
  obtain ⟨sb, hsb⟩ : ∃ sb, sd = ⟨sb, 0, none⟩ := ⟨_, hsb⟩
  subst hsb
  have hrun := Lib.run_countAt (P := Try.prog) w ad n c (intsOf f n) (by simp [intsOf]) (fun i hi => by
    rw [hr.at_ hi]
    simp [intsOf, hi]) 0
  have hx := run_callFunc_extern (P := Try.prog) Try.func89 (by kernel_rfl) (by kernel_rfl) (by kernel_rfl) (e := Extern.BytealgCount.count) (by kernel_rfl)
  have hx2 := hx #[.slice (some ad) n c, .int .u8 0] w
  rw [hrun] at hx2
  simp only [Result.andThen] at hx2
  have HX := Lib.hid hx2
  clear hrun hx hx2 hr
  go_enter Try.func85, Try.ntmps85
  go_wp2
  rw [HX.out]
  try simp only [Result.andThen]
  rw [Oper.upon_value]
  go_wp2
  go_ret
  exact ⟨rfl, rfl⟩

set_option maxRecDepth 100000 in
set_option maxHeartbeats 2000000 in
theorem blank_any (ad : Addr) (n c : Nat) (f : Nat → Nat) (w : World) (hr : Rd .u8 w (some ad) n f) (hf : ∀ j, j < n → f j < 256) (hn : n ≤ 1000000) :
    Calls Try.prog 80 #[.slice (some ad) n c] w fun e w' => (∃ b, e = .returned (.bool b) ∧ (b = true ↔ ∀ j, j < n → f j = 0)) ∧ Below w.heap.size w w' := by
  have HR := Lib.hid (hr.below (below_new w (.cells #[.int .u8 0] 5)))
  have HI := Lib.hid (zerosN_iff hf)
  have HW := Lib.hid (below_new w (.cells #[.int .u8 0] 5))
  have hc0 : (w.alloc (.cells #[.int .u8 0] 5)).cell? ⟨w.heap.size, 0, none⟩ = some (.int .u8 0) := (row_one (K := .u8) (t := 5) w 0).cell (by omega)
  have HC := Lib.hid hc0
  have hz := zerosN_le f n
  clear hr hf hc0
  go_enter Try.func80, Try.ntmps80
  go_wp2_with (go_at_call 85; refine (count_any ad ⟨w.heap.size, 0, none⟩ n c 1 f _ HR.out HC.out rfl).mono ?_; rintro e w' ⟨rfl, rfl⟩; generalize zerosN f n = Z at *)
  go_ret
  refine ⟨⟨_, rfl, ?_⟩, HW.out⟩
  have := HI.out
  rw [← this]
  simp
  try omega
end Go.Proofs.Ytmcbmbcfgefocaa
