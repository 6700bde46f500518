/- Contract: Decode. -/
import Derived.Test.YtmcbmbcfgefocaaPKd
import Derived.Laws.ResultCell
import Derived.IntWalk
namespace Go.Proofs.Ytmcbmbcfgefocaa
open Go.RowKit
set_option linter.unusedSimpArgs false
set_option linter.unusedVariables false

/-- Bytes that are a cell's sector. -/
def decP (n : Nat) (f : Nat → Nat) : Prop := n = 64 ∧ OpenB f 64 = true ∧ f 14 ≤ 49 ∧ mayP (f 12 : Nat) (f 13 : Nat) (f 14) ∧ ∀ j, 15 + f 14 ≤ j → j < 64 → f j = 0
def DecPost (w w' : World) (e : Ending) (n : Nat) (f : Nat → Nat) : Prop :=
  ((decP n f ∧ ∃ B c, e = .returned (.tuple #[cellV (num 256 (fun j => f (4 + j)) 4) (num 256 (fun j => f (8 + j)) 4) (f 12 : Nat) (f 13 : Nat) B (f 14) c, .int .i64 0]) ∧ Byt w' (.slice B (f 14) c) (f 14) (fun j => f (15 + j)) ∧ B ≠ none ∧ Typ8 w' (.slice B (f 14) c)) ∨
   (¬ decP n f ∧ e = .returned (.tuple #[cellV 0 0 0 0 none 0 0, .int .i64 2]))) ∧ Below w.heap.size w w'

theorem results_cell {fn : Func} (h : fn.results = #[.cell 2 106, .tmp 3]) {tmps : Array Value} {w : World} {b : Nat} {g s : Nat} {p q : Int} {A : Option Addr} {n c : Nat} (hp : tmps.getD 2 undef = .pointer (some ⟨b, 0, none⟩)) (hb : BoxC w b g s p q A n c) :
    (results fn tmps).run Try.prog w = .ok (.tuple #[cellV g s p q A n c, tmps.getD 3 undef]) w := by
  rw [results_cell_tmp h, hp]
  obtain ⟨c0, c1, c2, c3, c4⟩ := hb
  have hl := block_lt_of_cell c0
  go_simp


/-- A block that is a cell. -/
def BoxH (u : World) (b g s : Nat) (p q : Int) (A : Option Addr) (n c : Nat) : Prop := u.heap[b]? = some (.cells #[.int .u32 (g : Nat), .int .u32 (s : Nat), .int .i64 p, .int .i64 q, .slice A n c] 106 (0, 0))
section
variable {u u' : World} {b g s : Nat} {p q : Int} {A : Option Addr} {n c : Nat}
theorem BoxH.lt (h : BoxH u b g s p q A n c) : b < u.heap.size := (Array.getElem?_eq_some_iff.1 h).1
theorem BoxH.boxc (h : BoxH u b g s p q A n c) : BoxC u b g s p q A n c := by
  unfold BoxC
  rw [cell_of_row _ _ 0 _ _ _ h, cell_of_row _ _ 1 _ _ _ h, cell_of_row _ _ 2 _ _ _ h, cell_of_row _ _ 3 _ _ _ h, cell_of_row _ _ 4 _ _ _ h]
  exact ⟨rfl, rfl, rfl, rfl, rfl⟩
theorem BoxH.frozen (h : BoxH u b g s p q A n c) (j : Nat) : u.frozen? ⟨b, j, none⟩ = false := frozen_of_row _ _ _ _ _ h
theorem BoxH.keep {B : Nat} (h : BoxH u b g s p q A n c) (hb : Below B u u') (hB : b < B) : BoxH u' b g s p q A n c := (hb.block b hB).trans h
theorem BoxH.below (h : BoxH u b g s p q A n c) (hb : Below u.heap.size u u') : BoxH u' b g s p q A n c := h.keep hb h.lt
theorem BoxH.drew (h : BoxH u b g s p q A n c) : BoxH u.drew b g s p q A n c := h
theorem BoxH.new (w : World) (g s : Nat) (p q : Int) (A : Option Addr) (n c : Nat) : BoxH (w.alloc (.cells #[.int .u32 (g : Nat), .int .u32 (s : Nat), .int .i64 p, .int .i64 q, .slice A n c] 106)) w.heap.size g s p q A n c := heap_alloc_new w _
theorem BoxH.set5 (h : BoxH u b g s p q A n c) (g' s' : Nat) (p' q' : Int) (A' : Option Addr) (n' c' : Nat) :
    BoxH (((((u.setCell ⟨b, 0, none⟩ (.int .u32 (g' : Nat))).setCell ⟨b, 1, none⟩ (.int .u32 (s' : Nat))).setCell ⟨b, 2, none⟩ (.int .i64 p')).setCell ⟨b, 3, none⟩ (.int .i64 q')).setCell ⟨b, 4, none⟩ (.slice A' n' c')) b g' s' p' q' A' n' c' := by
  unfold BoxH at *
  simp [World.setCell, Array.getElem?_modify, h]
theorem wr_set5 (u : World) (b : Nat) (x0 x1 x2 x3 x4 : Value) : Wr b u (((((u.setCell ⟨b, 0, none⟩ x0).setCell ⟨b, 1, none⟩ x1).setCell ⟨b, 2, none⟩ x2).setCell ⟨b, 3, none⟩ x3).setCell ⟨b, 4, none⟩ x4) :=
  ((((Wr.set_ _ _ _ _).setCell _ _).setCell _ _).setCell _ _).setCell _ _
end
theorem pre_at (ad : Addr) (n c l m : Nat) (f : Nat → Nat) (w : World) (ha : Rd .u8 w (some ad) n f) (hc : n ≤ c) (hl : l ≤ m) (hm : m ≤ n) :
    ∃ B : Addr, (∀ (wq : World) (L M : Int), L = l → M = m → (Instr.slice 35 (.slice (some ad) n c) (some (.int .i64 L)) (some (.int .i64 M)) none).run Try.prog wq = .ok (.slice (some B) (m - l) (c - l)) wq) ∧ Rd .u8 w (some B) (m - l) (fun j => f (l + j)) := by
  refine ⟨if c = l then ad else ad.add l, fun wq L M hL hM => ?_, ?_⟩
  · subst hL
    subst hM
    rw [run_slice_lh wq 35 (some ad) n c el8 .i64 .i64 l m (by omega) (by omega) (by omega), sz8]
    simp only [Result.andThen, sliced, Int.toNat_natCast, Nat.mul_one, Option.map_some]
    split <;> rfl
  · by_cases h : c = l
    · obtain rfl : l = n := by omega
      obtain rfl : m = l := by omega
      rw [Nat.sub_self]
      exact Rd.zero
    · rw [if_neg h]
      exact (ha.drop (by omega : l ≤ n)).less (by omega)
theorem mid_at (ad : Addr) (n c l m : Nat) (f : Nat → Nat) (w : World) (ha : Rd .u8 w (some ad) n f) (hc : n ≤ c) (hl : l ≤ m) (hm : m ≤ n) :
    ∃ B : Addr, (∀ (wq : World) (L M : Int), L = l → M = m → (Instr.slice 35 (.slice (some ad) n c) (some (.int .i64 L)) (some (.int .i64 M)) (some (.int .i64 M))).run Try.prog wq = .ok (.slice (some B) (m - l) (m - l)) wq) ∧ Rd .u8 w (some B) (m - l) (fun j => f (l + j)) ∧ B.block = ad.block := by
  refine ⟨if m = l then ad else ad.add l, fun wq L M hL hM => ?_, ?_, by split; rfl; exact add_block _ _⟩
  · subst hL
    subst hM
    rw [run_slice_lhm wq 35 (some ad) n c el8 .i64 .i64 .i64 l m m (by omega) (by omega) (by omega) (by omega), sz8]
    simp only [Result.andThen, sliced, Int.toNat_natCast, Nat.mul_one, Option.map_some]
    split <;> rfl
  · by_cases h : m = l
    · subst h
      rw [Nat.sub_self]
      exact Rd.zero
    · rw [if_neg h]
      exact (ha.drop (by omega : l ≤ n)).less (by omega)
/-- What was opened, part by part. -/
def Opn (w : World) (v : Value) (f : Nat → Nat) (x y k : Nat) : Prop :=
  ∃ (ad : Addr) (c : Nat) (B0 B4 B11 Bk : Addr), v = .slice (some ad) 60 c ∧ 60 ≤ c ∧ ad.block < w.heap.size ∧
    w.cell? ⟨ad.block, ad.off + 8, none⟩ = some (.int .u8 (x : Nat)) ∧ w.cell? ⟨ad.block, ad.off + 9, none⟩ = some (.int .u8 (y : Nat)) ∧ w.cell? ⟨ad.block, ad.off + 10, none⟩ = some (.int .u8 (k : Nat)) ∧
    (∀ wq : World, (Instr.slice 35 (.slice (some ad) 60 c) (some (.int .i64 0)) (some (.int .i64 4)) none).run Try.prog wq = .ok (.slice (some B0) 4 c) wq) ∧ Rd .u8 w (some B0) 4 (fun j => f (4 + j)) ∧
    (∀ wq : World, (Instr.slice 35 (.slice (some ad) 60 c) (some (.int .i64 4)) (some (.int .i64 8)) none).run Try.prog wq = .ok (.slice (some B4) 4 (c - 4)) wq) ∧ Rd .u8 w (some B4) 4 (fun j => f (8 + j)) ∧
    (∀ wq : World, (Instr.slice 35 (.slice (some ad) 60 c) (some (.int .i64 11)) (some (.int .i64 (11 + (k : Int)))) (some (.int .i64 (11 + (k : Int))))).run Try.prog wq = .ok (.slice (some B11) k k) wq) ∧ Rd .u8 w (some B11) k (fun j => f (15 + j)) ∧
    (∀ wq : World, (Instr.slice 35 (.slice (some ad) 60 c) (some (.int .i64 (11 + (k : Int)))) none none).run Try.prog wq = .ok (.slice (some Bk) (49 - k) (c - (11 + k))) wq) ∧ Rd .u8 w (some Bk) (49 - k) (fun j => f (15 + k + j)) ∧ B11.block = ad.block
theorem opn_of {w : World} {v : Value} {f : Nat → Nat} {x y k : Nat} (h : Byt w v 60 (fun j => f (4 + j))) (hx : f 12 = x) (hy : f 13 = y) (hk : f 14 = k) (hk2 : k ≤ 49) : Opn w v f x y k := by
  obtain ⟨B, c, rfl, hc, hr, hf⟩ := h
  obtain ⟨ad, rfl, hal⟩ := hr.some_ (by omega)
  obtain ⟨B0, e0, r0⟩ := pre_at ad 60 c 0 4 _ w hr hc (by omega) (by omega)
  obtain ⟨B4, e4, r4⟩ := pre_at ad 60 c 4 8 _ w hr hc (by omega) (by omega)
  obtain ⟨B11, e11, r11, hbk⟩ := mid_at ad 60 c 11 (11 + k) _ w hr hc (by omega) (by omega)
  obtain ⟨Bk, ek, rk⟩ := rest_at ad 60 c (11 + k) _ w hr hc (by omega)
  have a8 := hr.at_ (j := 8) (by omega)
  have a9 := hr.at_ (j := 9) (by omega)
  have a10 := hr.at_ (j := 10) (by omega)
  refine ⟨ad, c, B0, B4, B11, Bk, rfl, hc, hal, ?_, ?_, ?_, fun wq => ?_, ?_, fun wq => ?_, ?_, fun wq => ?_, ?_, fun wq => ?_, ?_, hbk⟩
  · rw [← hx]; exact a8
  · rw [← hy]; exact a9
  · rw [← hk]; exact a10
  · have := e0 wq 0 4 rfl rfl
    simpa using this
  · exact r0.congr fun j _ => by rw [Nat.zero_add]
  · exact e4 wq 4 8 rfl rfl
  · exact r4.congr fun j _ => by rw [show 4 + (4 + j) = 8 + j from by omega]
  · have := e11 wq 11 (11 + (k : Int)) rfl (by omega)
    rw [Nat.add_sub_cancel_left] at this
    exact this
  · rw [Nat.add_sub_cancel_left] at r11
    exact r11.congr fun j _ => by rw [show 4 + (11 + j) = 15 + j from by omega]
  · have := ek wq (11 + (k : Int)) (by omega)
    rw [show 60 - (11 + k) = 49 - k from by omega] at this
    exact this
  · rw [show 60 - (11 + k) = 49 - k from by omega] at rk
    exact rk.congr fun j _ => by rw [show 4 + (11 + k + j) = 15 + k + j from by omega]
theorem opn10 {w : World} {v : Value} {f : Nat → Nat} {k : Nat} (h : Byt w v 60 (fun j => f (4 + j))) (hk : f 14 = k) : ∃ (ad : Addr) (c : Nat), v = .slice (some ad) 60 c ∧ ad.block < w.heap.size ∧ w.cell? ⟨ad.block, ad.off + 10, none⟩ = some (.int .u8 (k : Nat)) := by
  obtain ⟨B, c, rfl, hc, hr, hf⟩ := h
  obtain ⟨ad, rfl, hal⟩ := hr.some_ (by omega)
  have a10 := hr.at_ (j := 10) (by omega)
  exact ⟨ad, c, rfl, hal, by rw [← hk]; exact a10⟩
theorem dec_no {w w' : World} {n : Nat} {f : Nat → Nat} (h : ¬ decP n f) (hb : Below w.heap.size w w') : DecPost w w' (.returned (.tuple #[cellV 0 0 0 0 none 0 0, .int .i64 2])) n f := ⟨.inr ⟨h, rfl⟩, hb⟩
set_option maxRecDepth 100000 in
set_option maxHeartbeats 2000000 in
theorem decode_len (A : Option Addr) (n c : Nat) (f : Nat → Nat) (w : World) (hn : n ≠ 64) (hn2 : n ≤ 9223372036854775807) :
    Calls Try.prog 68 #[.slice A n c] w fun e w' => DecPost w w' e n f := by
  have HN := Lib.hid hn
  have hne : ((n : Int) != 64) = true := by rw [bne_iff_ne]; omega
  have hn3 : ¬ ((n : Int) = 64) := by omega
  clear hn
  go_enter Try.func68, Try.ntmps68
  go_wp2
  refine bodyPost_ret (results_cell rfl rfl (BoxC.new w 0 0 0 0 none 0 0)) rfl ?_
  exact dec_no (fun h => HN.out h.1) (below_new _ _)

set_option maxRecDepth 100000 in
set_option maxHeartbeats 2000000 in
theorem decode_shut (A : Option Addr) (c : Nat) (f : Nat → Nat) (w : World) (h : Byt w (.slice A 64 c) 64 f) (ho : OpenB f 64 = false) :
    Calls Try.prog 68 #[.slice A 64 c] w fun e w' => DecPost w w' e 64 f := by
  have HB := Lib.hid h
  have HO := Lib.hid ho
  have hw0 : Below w.heap.size w (w.alloc (.cells #[.int .u32 0, .int .u32 0, .int .i64 0, .int .i64 0, .slice none 0 0] 106)) := below_new _ _
  have HW := Lib.hid hw0
  have HX := Lib.hid (BoxH.new w 0 0 0 0 none 0 0)
  have HP : Hid (¬ decP 64 f) := fun h => by have := h.2.1; rw [ho] at this; cases this
  clear h ho hw0
  go_enter Try.func68, Try.ntmps68
  go_wp2_with (go_at_call 78; refine (open_b (HB.out.below HW.out) (by omega)).mono ?_; intro e w1 hp; obtain ⟨rfl, hb1⟩ := hp.no HO.out; clear hp; have HX1 := Lib.hid (HX.out.below hb1); have HB1 := Lib.hid (bbt HW.out hb1); clear hb1; obtain ⟨c0, c1, c2, c3, c4⟩ := HX1.out.boxc; have f0 := HX1.out.frozen 0; have f1 := HX1.out.frozen 1; have f2 := HX1.out.frozen 2; have f3 := HX1.out.frozen 3; have f4 := HX1.out.frozen 4; have hlt1 := HX1.out.lt)
  refine bodyPost_ret (results_cell rfl rfl (HX1.out.set5 0 0 0 0 none 0 0).boxc) rfl ?_
  exact dec_no HP.out ((wr_set5 _ _ _ _ _ _ _).below HB1.out (by have := HB1.out.size; omega) (Nat.le_refl _))

set_option maxRecDepth 100000 in
set_option maxHeartbeats 2000000 in
theorem decode_many (A : Option Addr) (c : Nat) (f : Nat → Nat) (w : World) (h : Byt w (.slice A 64 c) 64 f) (ho : OpenB f 64 = true) (hk : 49 < f 14) :
    Calls Try.prog 68 #[.slice A 64 c] w fun e w' => DecPost w w' e 64 f := by
  have HB := Lib.hid h
  have HO := Lib.hid ho
  have hw0 : Below w.heap.size w (w.alloc (.cells #[.int .u32 0, .int .u32 0, .int .i64 0, .int .i64 0, .slice none 0 0] 106)) := below_new _ _
  have HW := Lib.hid hw0
  have HX := Lib.hid (BoxH.new w 0 0 0 0 none 0 0)
  clear h ho hw0
  have hB14 : f 14 < 256 := HB.out.lt 14 (by omega)
  · have HP : Hid (¬ decP 64 f) := fun h => by have := h.2.2.1; omega
    generalize hK : f 14 = k at *
    have HK := Lib.hid hK
    clear hK
    go_enter Try.func68, Try.ntmps68
    go_wp2_with (go_at_call 78; refine (open_b (HB.out.below HW.out) (by omega)).mono ?_; intro e w1 hp; obtain ⟨v1, rfl, hv1, hb1, _⟩ := hp.yes HO.out; clear hp; obtain ⟨ad, c', rfl, hal, a10⟩ := opn10 hv1 HK.out; clear hv1; have HX1 := Lib.hid (HX.out.below hb1); have HB1 := Lib.hid (bbt HW.out hb1); clear hb1; obtain ⟨c0, c1, c2, c3, c4⟩ := HX1.out.boxc; have f0 := HX1.out.frozen 0; have f1 := HX1.out.frozen 1; have f2 := HX1.out.frozen 2; have f3 := HX1.out.frozen 3; have f4 := HX1.out.frozen 4; have hlt1 := HX1.out.lt)
    refine bodyPost_ret (results_cell rfl rfl (HX1.out.set5 0 0 0 0 none 0 0).boxc) rfl ?_
    exact dec_no HP.out ((wr_set5 _ _ _ _ _ _ _).below HB1.out (by have := HB1.out.size; omega) (Nat.le_refl _))
end Go.Proofs.Ytmcbmbcfgefocaa

/- Contract: Decode, of what was opened. -/
namespace Go.Proofs.Ytmcbmbcfgefocaa
open Go.RowKit
set_option linter.unusedSimpArgs false
set_option linter.unusedVariables false

theorem BoxH.off8 {u : World} {b g s : Nat} {p q : Int} {A : Option Addr} {n c : Nat} (h : BoxH u b g s p q A n c) {B : Option Addr} {m : Nat} {f : Nat → Nat} (hr : Rd .u8 u B m f) (hm : 0 < m) : Off B b := fun ad e he => by
  subst e
  have h0 := hr.at_ hm
  have e0 : ad.add 0 = ad := rfl
  rw [e0] at h0
  unfold BoxH at h
  rw [← he] at h
  obtain ⟨bl, o, x⟩ := ad
  simp only [World.cell?, h] at h0
  cases x with
  | none =>
    have : o = 0 ∨ o = 1 ∨ o = 2 ∨ o = 3 ∨ o = 4 ∨ 5 ≤ o := by omega
    rcases this with rfl | rfl | rfl | rfl | rfl | h5
    · simp at h0
    · simp at h0
    · simp at h0
    · simp at h0
    · simp at h0
    · rw [Array.getElem?_eq_none (by simpa using h5)] at h0; cases h0
  | some y => simp at h0

theorem typ8_wr {u : World} {b g s : Nat} {p q : Int} {A : Option Addr} {n c : Nat} (h : BoxH u b g s p q A n c) {v : Value} (ht : Typ8 u v) {x0 x1 x2 x3 x4 : Value} : Typ8 (((((u.setCell ⟨b, 0, none⟩ x0).setCell ⟨b, 1, none⟩ x1).setCell ⟨b, 2, none⟩ x2).setCell ⟨b, 3, none⟩ x3).setCell ⟨b, 4, none⟩ x4) v := fun k hk => by
  obtain ⟨cs, m, h1⟩ := ht k hk
  have hne : k ≠ b := fun e => by
    subst e
    have h2 := h1.symm.trans h
    simp at h2
  exact ⟨cs, m, by rw [Below.heap_setCell _ _ _ _ hne, Below.heap_setCell _ _ _ _ hne, Below.heap_setCell _ _ _ _ hne, Below.heap_setCell _ _ _ _ hne, Below.heap_setCell _ _ _ _ hne]; exact h1⟩
set_option maxRecDepth 100000 in
set_option maxHeartbeats 2000000 in
theorem decode_open (A : Option Addr) (c : Nat) (f : Nat → Nat) (w : World) (h : Byt w (.slice A 64 c) 64 f) (ho : OpenB f 64 = true) (hk : ¬ 49 < f 14) :
  Calls Try.prog 68 #[.slice A 64 c] w fun e w' => DecPost w w' e 64 f := by
  have HB := Lib.hid h
  have HO := Lib.hid ho
  have hw0 : Below w.heap.size w (w.alloc (.cells #[.int .u32 0, .int .u32 0, .int .i64 0, .int .i64 0, .slice none 0 0] 106)) := below_new _ _
  have HW := Lib.hid hw0
  have HX := Lib.hid (BoxH.new w 0 0 0 0 none 0 0)
  clear h ho hw0
  have hB14 : f 14 < 256 := HB.out.lt 14 (by omega)
  have hx : f 12 < 256 := HB.out.lt 12 (by omega)
  have hy : f 13 < 256 := HB.out.lt 13 (by omega)
  have HD := Lib.hid (show decP 64 f ↔ (mayP (f 12 : Nat) (f 13 : Nat) (f 14) ∧ ∀ j, j < 49 - f 14 → f (15 + f 14 + j) = 0) from ⟨fun h => ⟨h.2.2.2.1, fun j hj => h.2.2.2.2 _ (by omega) (by omega)⟩, fun h => ⟨rfl, HO.out, by omega, h.1, fun j h1 h2 => by
    have := h.2 (j - (15 + f 14)) (by omega)
    rwa [show 15 + f 14 + (j - (15 + f 14)) = j from by omega] at this⟩⟩)
  have HOP : Hid (∀ w1 v1, Byt w1 v1 60 (fun j => f (4 + j)) → Opn w1 v1 f (f 12) (f 13) (f 14)) := fun w1 v1 h => opn_of h rfl rfl rfl (by omega)
  have HFL := Lib.hid HB.out.lt
  have HG0 : Hid (∀ A c u, Rd .u8 u A 4 (fun j => f (4 + j)) → Calls Try.prog 79 #[.slice A 4 c] u fun e w' => e = .returned (.int .u32 (num 256 (fun j => f (4 + j)) 4 : Nat)) ∧ u = w') := fun A c u h => get_any A c _ u h fun j hj => HFL.out _ (by omega)
  have HG4 : Hid (∀ A c u, Rd .u8 u A 4 (fun j => f (8 + j)) → Calls Try.prog 79 #[.slice A 4 c] u fun e w' => e = .returned (.int .u32 (num 256 (fun j => f (8 + j)) 4 : Nat)) ∧ u = w') := fun A c u h => get_any A c _ u h fun j hj => HFL.out _ (by omega)
  unfold DecPost
  generalize num 256 (fun j => f (4 + j)) 4 = g at *
  generalize num 256 (fun j => f (8 + j)) 4 = s at *
  generalize f 12 = x at *
  generalize f 13 = y at *
  generalize f 14 = k at *
  go_enter Try.func68, Try.ntmps68
  go_wp2_with (go_at_call 78; refine (open_b (HB.out.below HW.out) (by omega)).mono ?_; intro e w1 hp; obtain ⟨v1, rfl, hv1, hb1, ht1⟩ := hp.yes HO.out; clear hp; obtain ⟨ad, c', B0, B4, B11, Bk, rfl, hc60, hal, a8, a9, a10, e0, r0, e4, r4, e11, r11, ek, rk, hbk⟩ := HOP.out _ _ hv1; clear hv1; have HT1 := Lib.hid (show Typ8 w1 (.slice (some B11) k k) from ht1.part hbk); clear ht1 hbk; have HR0 := Lib.hid r0; have HR4 := Lib.hid r4; have HR11 := Lib.hid r11; have HRK := Lib.hid rk; clear r0 r4 r11 rk; have HX1 := Lib.hid (HX.out.below hb1); have HB1 := Lib.hid (bbt HW.out hb1); clear hb1)
  have hwx : IntKind.i64.wrap (x : Int) = x := IntWalk.i64_in _ (by omega)
  have hwy : IntKind.i64.wrap (y : Int) = y := IntWalk.i64_in _ (by omega)
  go_region_held3 (fun u => u.cell? ⟨ad.block, ad.off + 8, none⟩ = some (.int .u8 (x : Nat)) ∧ u.cell? ⟨ad.block, ad.off + 9, none⟩ = some (.int .u8 (y : Nat))) (first | exact ⟨a8, a9⟩ | trivial | go_keep)
    (first
      | (go_at_call 79; with_reducible refine Calls.mono (HG0.out _ _ _ (by first | exact HR0.out.drew | exact (HR0.out.below (below_new _ _)).drew | exact HR0.out.drew.below (below_new _ _) | exact (HR0.out.drew.below (below_new _ _)).drew)) ?_; rintro e w2 ⟨rfl, rfl⟩)
      | (go_at_call 79; with_reducible refine Calls.mono (HG4.out _ _ _ (by first | exact HR4.out.drew | exact (HR4.out.below (below_new _ _)).drew | exact HR4.out.drew.below (below_new _ _) | exact (HR4.out.drew.below (below_new _ _)).drew)) ?_; rintro e w2 ⟨rfl, rfl⟩))
  all_goals
    clear e0 e4 e11 a8 a9 a10 hwx hwy
    have hw3 : Below w1.heap.size w1 (w1.alloc (.cells #[.int .u32 (g : Nat), .int .u32 (s : Nat), .int .i64 (x : Nat), .int .i64 (y : Nat), .slice (some B11) k k] 106)).drew := Below.drew_ (below_new _ _)
    have HX3 := Lib.hid (HX1.out.below hw3)
    have HC3 := Lib.hid ((BoxH.new w1 g s (x : Nat) (y : Nat) (some B11) k k).drew)
    have HK3 := Lib.hid (HRK.out.below hw3)
    have HR3 := Lib.hid (HR11.out.below hw3)
    have HT3 := Lib.hid (HT1.out.below hw3)
    have HB3 := Lib.hid (bbt HB1.out hw3)
    have hGlt : w.heap.size < w1.heap.size := HX1.out.lt
    clear hw3 hal HR0 HR4 HG0 HG4
    generalize (w1.alloc (.cells #[.int .u32 (g : Nat), .int .u32 (s : Nat), .int .i64 (x : Nat), .int .i64 (y : Nat), .slice (some B11) k k] 106)).drew = w3 at *
    generalize hG : w1.heap.size = G at *
    clear hG HX1 HB1
    obtain ⟨d0, d1, d2, d3, d4⟩ := HC3.out.boxc
    have hGl := HC3.out.lt
    by_cases hm : mayP (x : Nat) (y : Nat) k
    · have HM := Lib.hid (decide_eq_true hm)
      have HFK := Lib.hid (show ∀ j, j < 49 - k → f (15 + k + j) < 256 from fun j hj => HFL.out _ (by omega))
      by_cases hz : ∀ j, j < 49 - k → f (15 + k + j) = 0
      · have HDD := Lib.hid (HD.out.2 ⟨hm, hz⟩)
        have HZ := Lib.hid hz
        clear hm hz
        go_wp2_with (first
          | (go_at_call 73; refine (may_any g s (x : Nat) (y : Nat) (some B11) k k _ (by omega)).mono ?_; rintro e w4 ⟨rfl, hb4⟩; rw [HM.out]; have HX4 := Lib.hid (HX3.out.below hb4); have HC4 := Lib.hid (HC3.out.below hb4); have HK4 := Lib.hid (HK3.out.below hb4); have HT4 := Lib.hid (HT3.out.below hb4); have HR4 := Lib.hid (HR3.out.below hb4); have HB4 := Lib.hid (bbt HB3.out hb4); clear hb4)
          | (go_at_call 80; refine (blank_any Bk (49 - k) _ _ _ HK4.out HFK.out (by omega)).mono ?_; rintro e w5 ⟨⟨b, rfl, hb⟩, hb5⟩; obtain rfl := hb.2 HZ.out; clear hb; have HX5 := Lib.hid (HX4.out.below hb5); have HC5 := Lib.hid (HC4.out.below hb5); have HT5 := Lib.hid (HT4.out.below hb5); have HR5 := Lib.hid (HR4.out.below hb5); have HB5 := Lib.hid (bbt HB4.out hb5); clear hb5 d0 d1 d2 d3 d4 hGl; obtain ⟨d0, d1, d2, d3, d4⟩ := HC5.out.boxc; have hGl := HC5.out.lt; obtain ⟨c0, c1, c2, c3, c4⟩ := HX5.out.boxc; have f0 := HX5.out.frozen 0; have f1 := HX5.out.frozen 1; have f2 := HX5.out.frozen 2; have f3 := HX5.out.frozen 3; have f4 := HX5.out.frozen 4; have hlt1 := HX5.out.lt))
        refine bodyPost_ret (results_cell rfl rfl (HX5.out.set5 g s (x : Nat) (y : Nat) (some B11) k k).boxc) rfl ?_
        have hk1 : 0 < k := by have h1 := HDD.out; have := HD.out.1 h1; unfold mayP at this; omega
        refine ⟨.inl ⟨HDD.out, some B11, k, rfl, ⟨_, _, rfl, Nat.le_refl _, HR5.out.wr (HX5.out.off8 HR5.out hk1) (wr_set5 _ _ _ _ _ _ _), fun j hj => HFL.out _ (by omega)⟩, by simp, typ8_wr HX5.out HT5.out⟩, (wr_set5 _ _ _ _ _ _ _).below HB5.out (by have := HB5.out.size; omega) (Nat.le_refl _)⟩
      · have HDD := Lib.hid (show ¬ decP 64 f from fun h => hz (HD.out.1 h).2)
        have HZ := Lib.hid hz
        clear hm hz
        go_wp2_with (first
          | (go_at_call 73; refine (may_any g s (x : Nat) (y : Nat) (some B11) k k _ (by omega)).mono ?_; rintro e w4 ⟨rfl, hb4⟩; rw [HM.out]; have HX4 := Lib.hid (HX3.out.below hb4); have HK4 := Lib.hid (HK3.out.below hb4); have HB4 := Lib.hid (bbt HB3.out hb4); clear hb4)
          | (go_at_call 80; refine (blank_any Bk (49 - k) _ _ _ HK4.out HFK.out (by omega)).mono ?_; rintro e w5 ⟨⟨b, rfl, hb⟩, hb5⟩; obtain rfl : b = false := Bool.eq_false_iff.2 fun h => HZ.out (hb.1 h); clear hb; have HX5 := Lib.hid (HX4.out.below hb5); have HB5 := Lib.hid (bbt HB4.out hb5); clear hb5 d0 d1 d2 d3 d4 hGl; obtain ⟨c0, c1, c2, c3, c4⟩ := HX5.out.boxc; have f0 := HX5.out.frozen 0; have f1 := HX5.out.frozen 1; have f2 := HX5.out.frozen 2; have f3 := HX5.out.frozen 3; have f4 := HX5.out.frozen 4; have hlt1 := HX5.out.lt))
        refine bodyPost_ret (results_cell rfl rfl (HX5.out.set5 0 0 0 0 none 0 0).boxc) rfl ?_
        exact ⟨.inr ⟨HDD.out, rfl⟩, (wr_set5 _ _ _ _ _ _ _).below HB5.out (by have := HB5.out.size; omega) (Nat.le_refl _)⟩
    · have HM := Lib.hid (decide_eq_false hm)
      have HDD := Lib.hid (show ¬ decP 64 f from fun h => hm (HD.out.1 h).1)
      clear hm
      go_wp2_with (first
        | (go_at_call 73; refine (may_any g s (x : Nat) (y : Nat) (some B11) k k _ (by omega)).mono ?_; rintro e w4 ⟨rfl, hb4⟩; rw [HM.out]; have HX5 := Lib.hid (HX3.out.below hb4); have HB5 := Lib.hid (bbt HB3.out hb4); clear hb4 d0 d1 d2 d3 d4 hGl; obtain ⟨c0, c1, c2, c3, c4⟩ := HX5.out.boxc; have f0 := HX5.out.frozen 0; have f1 := HX5.out.frozen 1; have f2 := HX5.out.frozen 2; have f3 := HX5.out.frozen 3; have f4 := HX5.out.frozen 4; have hlt1 := HX5.out.lt))
      refine bodyPost_ret (results_cell rfl rfl (HX5.out.set5 0 0 0 0 none 0 0).boxc) rfl ?_
      exact ⟨.inr ⟨HDD.out, rfl⟩, (wr_set5 _ _ _ _ _ _ _).below HB5.out (by have := HB5.out.size; omega) (Nat.le_refl _)⟩

theorem decode_by {w : World} {v : Value} {n : Nat} {f : Nat → Nat} (h : Byt w v n f) (hn : n ≤ 9223372036854775807) : Calls Try.prog 68 #[v] w fun e w' => DecPost w w' e n f := by
  have h0 := h
  obtain ⟨A, c, rfl, _, _, _⟩ := h
  by_cases hl : n = 64
  · subst hl
    cases ho : OpenB f 64
    · exact decode_shut A c f w h0 ho
    · by_cases hk : 49 < f 14
      · exact decode_many A c f w h0 ho hk
      · exact decode_open A c f w h0 ho hk
  · exact decode_len A n c f w hl hn
end Go.Proofs.Ytmcbmbcfgefocaa
