/- awake returns true. -/
import Derived.Test.YtmedmeabjlmggaaKn
namespace Go.Proofs.Ytmedmeabjlmggaa
open Go.RowKit
set_option linter.unusedSimpArgs false
set_option linter.unusedVariables false

/-- A cell that lies at an address. -/
def Elem (w : World) (a : Addr) (g s p q : Int) (A : Option Addr) (m c : Nat) : Prop :=
  a.block < w.heap.size ∧ w.cell? a = some (.int .u32 g) ∧ w.cell? ⟨a.block, a.off + 1, none⟩ = some (.int .u32 s) ∧ w.cell? ⟨a.block, a.off + 2, none⟩ = some (.int .i64 p) ∧ w.cell? ⟨a.block, a.off + 3, none⟩ = some (.int .i64 q) ∧ w.cell? ⟨a.block, a.off + 4, none⟩ = some (.slice A m c)
def ElemD (w : World) (A : Option Addr) (m c : Nat) (h : Nat → Nat) : Prop := Rd .u8 w A m h ∧ (∀ j, j < m → h j < 256) ∧ m ≤ c ∧ (A = none → m = 0 ∧ c = 0)
theorem Parts.at_ {w : World} {g s : Int} {n : Nat} {f : Nat → Nat} {ad : Addr} {c : Nat} (h : Parts w g s n f (.slice (some ad) (needF n) c)) (hg : u32I g) (hs : u32I s) {i : Nat} (hi : i < needF n) :
    ∃ A m c', Elem w (ad.add (i * 5)) g s (i : Nat) (needF n : Nat) A m c' ∧ ElemD w A m c' (fun j => f (49 * i + j)) ∧ m = min (49 * i + 49) n - 49 * i ∧ mayP (i : Nat) (needF n : Nat) m := by
  obtain ⟨ad', c2, X, h1, h2, h3, h4⟩ := h
  injection h1 with h1 _ _
  injection h1 with h1
  subst h1
  obtain ⟨p0, p1, p2, p3, p4, p5, p6, p7⟩ := h3.at_ hi
  have hP := h4 i hi
  have hm := part_may hP hi
  obtain ⟨q1, q2, q3, q4, q5, q6⟩ := hP
  rw [q3, q4] at hm
  rw [q1, show (g.toNat : Int) = g from Int.toNat_of_nonneg hg.1] at p1
  rw [q2, show (s.toNat : Int) = s from Int.toNat_of_nonneg hs.1] at p2
  rw [q3] at p3
  rw [q4] at p4
  obtain ⟨_, _, _, _, _, _, g1, g2, g3, g4⟩ := p7
  exact ⟨(X i).A, (X i).n, (X i).c, ⟨p0, p1, p2, p3, p4, p5⟩, ⟨p6.congr q6, fun j hj => by show f (49 * i + j) < 256; rw [← q6 j hj]; exact g3 j hj, g1, g4⟩, q5, hm⟩
theorem Parts.form {w : World} {g s : Int} {n : Nat} {f : Nat → Nat} {v : Value} (h : Parts w g s n f v) : ∃ ad c, v = .slice (some ad) (needF n) c ∧ needF n ≤ c := by
  obtain ⟨ad, c, _, h1, h2, _⟩ := h
  exact ⟨ad, c, h1, h2⟩
theorem zeros_byt {w : World} {G n : Nat} (h : Row .u8 5 w G n (fun _ => 0)) : Byt w (.slice (some ⟨G, 0, none⟩) n n) n (fun _ => 0) := ⟨_, _, rfl, Nat.le_refl _, h.rd0 (Nat.le_refl _), fun _ _ => by show (0 : Nat) < 256; decide⟩
theorem u32_1 : u32I 1 := by unfold u32I; omega
theorem u32_2 : u32I 2 := by unfold u32I; omega

/-- What awake sees of its list's second cell. -/
def Second (w : World) (v : Value) : Prop := ∃ ad c A m c' h, v = .slice (some ad) 2 c ∧ 2 ≤ c ∧ ad.block < w.heap.size ∧ w.cell? ⟨ad.block, ad.off + 5, none⟩ = some (.int .u32 1) ∧ w.cell? ⟨ad.block, ad.off + 6, none⟩ = some (.int .u32 2) ∧ w.cell? ⟨ad.block, ad.off + 7, none⟩ = some (.int .i64 1) ∧ w.cell? ⟨ad.block, ad.off + 8, none⟩ = some (.int .i64 2) ∧ w.cell? ⟨ad.block, ad.off + 9, none⟩ = some (.slice A m c') ∧ m = 1 ∧ Rd .u8 w A m h ∧ ∀ j, j < m → h j < 256
theorem second_of {w : World} {f : Nat → Nat} {v : Value} (h : Parts w 1 2 50 f v) : Second w v := by
  obtain ⟨ad, c, rfl, hc⟩ := h.form
  have hn : needF 50 = 2 := by decide
  obtain ⟨A, m, c', ⟨e0, e1, e2, e3, e4, e5⟩, ⟨d1, d2, _, _⟩, hm, _⟩ := h.at_ u32_1 u32_2 (i := 1) (by rw [hn]; omega)
  rw [hn] at hc e4 ⊢
  exact ⟨ad, c, A, m, c', _, rfl, hc, e0, e1, e2, e3, e4, e5, by omega, d1, d2⟩

set_option maxRecDepth 20000 in
set_option maxHeartbeats 4000000 in
theorem awake_any (w : World) : Calls Try.prog 7 #[] w fun e w' => e = .returned (.bool true) ∧ Below w.heap.size w w' := by
  go_enter Try.func7, Try.ntmps7
  go_wp2_with (first
    | (at_make; refine wpList_make_row rfl _ _ 24 rfl .u8 5 Try.underlying24 1 u8_info (by omega) _ _ _ _ 50 rfl rfl (by omega) (by omega) (by omega) ?_; intro w1 hrow1 hb1 hs1; have HR1 := Lib.hid hrow1; clear hrow1 hs1)
    | (go_at_call 9; with_reducible refine Calls.mono (split_i u32_1 u32_2 (zeros_byt HR1.out) (by omega) (by decide)) ?_; rintro e w2 ⟨⟨v2, rfl, hv2⟩, hb2⟩; have HP2 := Lib.hid hv2; have hb3 := bbt hb1 hb2; clear hv2 hb1 hb2 HR1)
    | (go_at_call 11; refine Calls.mono (join_i HP2.out (by decide)) ?_; rintro e w4 ⟨⟨v4, rfl, hv4⟩, hb4⟩; obtain ⟨a4, c4, rfl, _⟩ := hv4; have HP4 := Lib.hid (HP2.out.below hb4); have hb5 := bbt hb3 hb4; clear hb3 hb4 HP2)
    | (go_at_call 9; refine Calls.mono (split_ino (n := 0) (f := fun _ => 0) u32_1 u32_2 byt_none (by omega) (by decide)) ?_; rintro e w6 ⟨rfl, hb6⟩; have HP6 := Lib.hid (HP4.out.below hb6); have hb7 := bbt hb5 hb6; clear hb5 hb6 HP4; obtain ⟨ad, c, A, m, c', h, rfl, hc, e0, e1, e2, e3, e4, e5, hm, d1, d2⟩ := second_of HP6.out; have HD1 := Lib.hid d1; have HD2 := Lib.hid d2; clear HP6 d1 d2; have hm1 : ((m : Int) == 1) = true := (by rw [hm]; rfl); have HMY := Lib.hid (show mayP 1 2 m from by rw [hm]; decide); have HM1 := Lib.hid hm; clear hm)
    | (go_at_call 28; refine Calls.mono (encode_i u32_1 u32_2 HD1.out HD2.out HMY.out) ?_; rintro e w8 ⟨⟨v8, rfl, hv8⟩, hb8⟩; have HV8 := Lib.hid hv8; obtain ⟨a8, c8, rfl, _⟩ := hv8; have hb9 := bbt hb7 hb8; clear hb7 hb8 e0 e1 e2 e3 e4 e5)
    | (go_at_call 29; refine Calls.mono (decode_i u32_1 u32_2 HMY.out HD2.out HV8.out) ?_; rintro e w10 ⟨⟨B, cB, rfl, hv10⟩, hb10⟩; have HX10 := Lib.hid (BoxC.new w10 1 2 1 2 B m cB); have hb11 := bbt hb9 hb10; clear hb9 hb10 hv10 HV8)
    | (go_at_call 29; refine Calls.mono (decode_ino (m := 0) (h := fun _ => 0) byt_none (by omega) (fun h => absurd h.1 (by decide))) ?_; rintro e w12 ⟨rfl, hb12⟩; have HX12 := Lib.hid ((HX10.out.below hb12).below (below_new _ (.cells #[.int .u32 0, .int .u32 0, .int .i64 0, .int .i64 0, .slice none 0 0] 62))); have hb13 := bbt (bbt (bbt hb11 (below_new _ _)) hb12) (below_new _ (.cells #[.int .u32 0, .int .u32 0, .int .i64 0, .int .i64 0, .slice none 0 0] 62)); obtain ⟨x0, x1, x2, x3, x4⟩ := HX12.out; have hxl := HX12.out.lt)
    | (go_at_call 15; refine Calls.mono (need_i (by omega) (by omega)) ?_; rintro e w14 ⟨rfl, rfl⟩; rw [show needF (393 : Int).toNat = 0 from by decide])
    | (go_at_call 30; refine Calls.mono (may_i u32_1 u32_2 (by have := HM1.out; omega)) ?_; rintro e w16 ⟨rfl, hb16⟩; rw [decide_eq_true HMY.out]; have hb17 := bbt hb13 hb16; clear hb13 hb16))
  go_ret
  exact ⟨rfl, hb17⟩
end Go.Proofs.Ytmedmeabjlmggaa
