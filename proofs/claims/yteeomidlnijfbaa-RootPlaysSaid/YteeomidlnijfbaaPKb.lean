/- Contract: Decode, of what was opened. -/
import Derived.Test.YteeomidlnijfbaaPKf
import Derived.IntWalk
import Derived.Test.YteeomidlnijfbaaPKa
namespace Go.Proofs.Yteeomidlnijfbaa
open Go.RowKit
set_option linter.unusedSimpArgs false
set_option linter.unusedVariables false

theorem BoxH.off8 {u : World} {b g s : Nat} {p q : Int} {A : Option Addr} {n c : Nat} (h : BoxH u b g s p q A n c) {B : Option Addr} {m : Nat} {f : Nat → Nat} (hr : Rd .u8 u B m f) (hm : 0 < m) : Off B b := fun ad e he => by
  subst e
  have h0 := hr.at_ hm
  have e0 : ad.add 0 = ad := rfl
  rw [e0] at h0
  unfold BoxH at h
  rw [← he] at h
  obtain ⟨bl, o, x⟩ := ad
  simp only [World.cell?, h] at h0
  cases x with
  | none =>
    have : o = 0 ∨ o = 1 ∨ o = 2 ∨ o = 3 ∨ o = 4 ∨ 5 ≤ o := by omega
    rcases this with rfl | rfl | rfl | rfl | rfl | h5
    · simp at h0
    · simp at h0
    · simp at h0
    · simp at h0
    · simp at h0
    · rw [Array.getElem?_eq_none (by simpa using h5)] at h0; cases h0
  | some y => simp at h0

theorem typ8_wr {u : World} {b g s : Nat} {p q : Int} {A : Option Addr} {n c : Nat} (h : BoxH u b g s p q A n c) {v : Value} (ht : Typ8 u v) {x0 x1 x2 x3 x4 : Value} : Typ8 (((((u.setCell ⟨b, 0, none⟩ x0).setCell ⟨b, 1, none⟩ x1).setCell ⟨b, 2, none⟩ x2).setCell ⟨b, 3, none⟩ x3).setCell ⟨b, 4, none⟩ x4) v := fun k hk => by
  obtain ⟨cs, m, h1⟩ := ht k hk
  have hne : k ≠ b := fun e => by
    subst e
    have h2 := h1.symm.trans h
    simp at h2
  exact ⟨cs, m, by rw [Below.heap_setCell _ _ _ _ hne, Below.heap_setCell _ _ _ _ hne, Below.heap_setCell _ _ _ _ hne, Below.heap_setCell _ _ _ _ hne, Below.heap_setCell _ _ _ _ hne]; exact h1⟩
set_option maxRecDepth 100000 in
set_option maxHeartbeats 2000000 in
theorem decode_open (A : Option Addr) (c : Nat) (f : Nat → Nat) (w : World) (h : Byt w (.slice A 64 c) 64 f) (ho : OpenB f 64 = true) (hk : ¬ 49 < f 14) :
  Calls Try.prog 72 #[.slice A 64 c] w fun e w' => DecPost w w' e 64 f := by
  have HB := Lib.hid h
  have HO := Lib.hid ho
  have hw0 : Below w.heap.size w (w.alloc (.cells #[.int .u32 0, .int .u32 0, .int .i64 0, .int .i64 0, .slice none 0 0] 97)) := below_new _ _
  have HW := Lib.hid hw0
  have HX := Lib.hid (BoxH.new w 0 0 0 0 none 0 0)
  clear h ho hw0
  have hB14 : f 14 < 256 := HB.out.lt 14 (by omega)
  have hx : f 12 < 256 := HB.out.lt 12 (by omega)
  have hy : f 13 < 256 := HB.out.lt 13 (by omega)
  have HD := Lib.hid (show decP 64 f ↔ (mayP (f 12 : Nat) (f 13 : Nat) (f 14) ∧ ∀ j, j < 49 - f 14 → f (15 + f 14 + j) = 0) from ⟨fun h => ⟨h.2.2.2.1, fun j hj => h.2.2.2.2 _ (by omega) (by omega)⟩, fun h => ⟨rfl, HO.out, by omega, h.1, fun j h1 h2 => by
    have := h.2 (j - (15 + f 14)) (by omega)
    rwa [show 15 + f 14 + (j - (15 + f 14)) = j from by omega] at this⟩⟩)
  have HOP : Hid (∀ w1 v1, Byt w1 v1 60 (fun j => f (4 + j)) → Opn w1 v1 f (f 12) (f 13) (f 14)) := fun w1 v1 h => opn_of h rfl rfl rfl (by omega)
  have HFL := Lib.hid HB.out.lt
  have HG0 : Hid (∀ A c u, Rd .u8 u A 4 (fun j => f (4 + j)) → Calls Try.prog 85 #[.slice A 4 c] u fun e w' => e = .returned (.int .u32 (num 256 (fun j => f (4 + j)) 4 : Nat)) ∧ u = w') := fun A c u h => get_any A c _ u h fun j hj => HFL.out _ (by omega)
  have HG4 : Hid (∀ A c u, Rd .u8 u A 4 (fun j => f (8 + j)) → Calls Try.prog 85 #[.slice A 4 c] u fun e w' => e = .returned (.int .u32 (num 256 (fun j => f (8 + j)) 4 : Nat)) ∧ u = w') := fun A c u h => get_any A c _ u h fun j hj => HFL.out _ (by omega)
  unfold DecPost
  generalize num 256 (fun j => f (4 + j)) 4 = g at *
  generalize num 256 (fun j => f (8 + j)) 4 = s at *
  generalize f 12 = x at *
  generalize f 13 = y at *
  generalize f 14 = k at *
  go_enter Try.func72, Try.ntmps72
  go_wp2_with (go_at_call 84; refine (open_b (HB.out.below HW.out) (by omega)).mono ?_; intro e w1 hp; obtain ⟨v1, rfl, hv1, hb1, ht1⟩ := hp.yes HO.out; clear hp; obtain ⟨ad, c', B0, B4, B11, Bk, rfl, hc60, hal, a8, a9, a10, e0, r0, e4, r4, e11, r11, ek, rk, hbk⟩ := HOP.out _ _ hv1; clear hv1; have HT1 := Lib.hid (show Typ8 w1 (.slice (some B11) k k) from ht1.part hbk); clear ht1 hbk; have HR0 := Lib.hid r0; have HR4 := Lib.hid r4; have HR11 := Lib.hid r11; have HRK := Lib.hid rk; clear r0 r4 r11 rk; have HX1 := Lib.hid (HX.out.below hb1); have HB1 := Lib.hid (bbt HW.out hb1); clear hb1)
  have hwx : IntKind.i64.wrap (x : Int) = x := IntWalk.i64_in _ (by omega)
  have hwy : IntKind.i64.wrap (y : Int) = y := IntWalk.i64_in _ (by omega)
  go_region_held3 (fun u => u.cell? ⟨ad.block, ad.off + 8, none⟩ = some (.int .u8 (x : Nat)) ∧ u.cell? ⟨ad.block, ad.off + 9, none⟩ = some (.int .u8 (y : Nat))) (first | exact ⟨a8, a9⟩ | trivial | go_keep)
    (first
      | (go_at_call 85; with_reducible refine Calls.mono (HG0.out _ _ _ (by first | exact HR0.out.drew | exact (HR0.out.below (below_new _ _)).drew | exact HR0.out.drew.below (below_new _ _) | exact (HR0.out.drew.below (below_new _ _)).drew)) ?_; rintro e w2 ⟨rfl, rfl⟩)
      | (go_at_call 85; with_reducible refine Calls.mono (HG4.out _ _ _ (by first | exact HR4.out.drew | exact (HR4.out.below (below_new _ _)).drew | exact HR4.out.drew.below (below_new _ _) | exact (HR4.out.drew.below (below_new _ _)).drew)) ?_; rintro e w2 ⟨rfl, rfl⟩))
  all_goals
    clear e0 e4 e11 a8 a9 a10 hwx hwy
    have hw3 : Below w1.heap.size w1 (w1.alloc (.cells #[.int .u32 (g : Nat), .int .u32 (s : Nat), .int .i64 (x : Nat), .int .i64 (y : Nat), .slice (some B11) k k] 97)).drew := Below.drew_ (below_new _ _)
    have HX3 := Lib.hid (HX1.out.below hw3)
    have HC3 := Lib.hid ((BoxH.new w1 g s (x : Nat) (y : Nat) (some B11) k k).drew)
    have HK3 := Lib.hid (HRK.out.below hw3)
    have HR3 := Lib.hid (HR11.out.below hw3)
    have HT3 := Lib.hid (HT1.out.below hw3)
    have HB3 := Lib.hid (bbt HB1.out hw3)
    have hGlt : w.heap.size < w1.heap.size := HX1.out.lt
    clear hw3 hal HR0 HR4 HG0 HG4
    generalize (w1.alloc (.cells #[.int .u32 (g : Nat), .int .u32 (s : Nat), .int .i64 (x : Nat), .int .i64 (y : Nat), .slice (some B11) k k] 97)).drew = w3 at *
    generalize hG : w1.heap.size = G at *
    clear hG HX1 HB1
    obtain ⟨d0, d1, d2, d3, d4⟩ := HC3.out.boxc
    have hGl := HC3.out.lt
    by_cases hm : mayP (x : Nat) (y : Nat) k
    · have HM := Lib.hid (decide_eq_true hm)
      have HFK := Lib.hid (show ∀ j, j < 49 - k → f (15 + k + j) < 256 from fun j hj => HFL.out _ (by omega))
      by_cases hz : ∀ j, j < 49 - k → f (15 + k + j) = 0
      · have HDD := Lib.hid (HD.out.2 ⟨hm, hz⟩)
        have HZ := Lib.hid hz
        clear hm hz
        go_wp2_with (first
          | (go_at_call 77; refine (may_any g s (x : Nat) (y : Nat) (some B11) k k _ (by omega)).mono ?_; rintro e w4 ⟨rfl, hb4⟩; rw [HM.out]; have HX4 := Lib.hid (HX3.out.below hb4); have HC4 := Lib.hid (HC3.out.below hb4); have HK4 := Lib.hid (HK3.out.below hb4); have HT4 := Lib.hid (HT3.out.below hb4); have HR4 := Lib.hid (HR3.out.below hb4); have HB4 := Lib.hid (bbt HB3.out hb4); clear hb4)
          | (go_at_call 86; refine (blank_any Bk (49 - k) _ _ _ HK4.out HFK.out (by omega)).mono ?_; rintro e w5 ⟨⟨b, rfl, hb⟩, hb5⟩; obtain rfl := hb.2 HZ.out; clear hb; have HX5 := Lib.hid (HX4.out.below hb5); have HC5 := Lib.hid (HC4.out.below hb5); have HT5 := Lib.hid (HT4.out.below hb5); have HR5 := Lib.hid (HR4.out.below hb5); have HB5 := Lib.hid (bbt HB4.out hb5); clear hb5 d0 d1 d2 d3 d4 hGl; obtain ⟨d0, d1, d2, d3, d4⟩ := HC5.out.boxc; have hGl := HC5.out.lt; obtain ⟨c0, c1, c2, c3, c4⟩ := HX5.out.boxc; have f0 := HX5.out.frozen 0; have f1 := HX5.out.frozen 1; have f2 := HX5.out.frozen 2; have f3 := HX5.out.frozen 3; have f4 := HX5.out.frozen 4; have hlt1 := HX5.out.lt))
        refine bodyPost_ret (results_cell rfl rfl (HX5.out.set5 g s (x : Nat) (y : Nat) (some B11) k k).boxc) rfl ?_
        have hk1 : 0 < k := by have h1 := HDD.out; have := HD.out.1 h1; unfold mayP at this; omega
        refine ⟨.inl ⟨HDD.out, some B11, k, rfl, ⟨_, _, rfl, Nat.le_refl _, HR5.out.wr (HX5.out.off8 HR5.out hk1) (wr_set5 _ _ _ _ _ _ _), fun j hj => HFL.out _ (by omega)⟩, by simp, typ8_wr HX5.out HT5.out⟩, (wr_set5 _ _ _ _ _ _ _).below HB5.out (by have := HB5.out.size; omega) (Nat.le_refl _)⟩
      · have HDD := Lib.hid (show ¬ decP 64 f from fun h => hz (HD.out.1 h).2)
        have HZ := Lib.hid hz
        clear hm hz
        go_wp2_with (first
          | (go_at_call 77; refine (may_any g s (x : Nat) (y : Nat) (some B11) k k _ (by omega)).mono ?_; rintro e w4 ⟨rfl, hb4⟩; rw [HM.out]; have HX4 := Lib.hid (HX3.out.below hb4); have HK4 := Lib.hid (HK3.out.below hb4); have HB4 := Lib.hid (bbt HB3.out hb4); clear hb4)
          | (go_at_call 86; refine (blank_any Bk (49 - k) _ _ _ HK4.out HFK.out (by omega)).mono ?_; rintro e w5 ⟨⟨b, rfl, hb⟩, hb5⟩; obtain rfl : b = false := Bool.eq_false_iff.2 fun h => HZ.out (hb.1 h); clear hb; have HX5 := Lib.hid (HX4.out.below hb5); have HB5 := Lib.hid (bbt HB4.out hb5); clear hb5 d0 d1 d2 d3 d4 hGl; obtain ⟨c0, c1, c2, c3, c4⟩ := HX5.out.boxc; have f0 := HX5.out.frozen 0; have f1 := HX5.out.frozen 1; have f2 := HX5.out.frozen 2; have f3 := HX5.out.frozen 3; have f4 := HX5.out.frozen 4; have hlt1 := HX5.out.lt))
        refine bodyPost_ret (results_cell rfl rfl (HX5.out.set5 0 0 0 0 none 0 0).boxc) rfl ?_
        exact ⟨.inr ⟨HDD.out, rfl⟩, (wr_set5 _ _ _ _ _ _ _).below HB5.out (by have := HB5.out.size; omega) (Nat.le_refl _)⟩
    · have HM := Lib.hid (decide_eq_false hm)
      have HDD := Lib.hid (show ¬ decP 64 f from fun h => hm (HD.out.1 h).1)
      clear hm
      go_wp2_with (first
        | (go_at_call 77; refine (may_any g s (x : Nat) (y : Nat) (some B11) k k _ (by omega)).mono ?_; rintro e w4 ⟨rfl, hb4⟩; rw [HM.out]; have HX5 := Lib.hid (HX3.out.below hb4); have HB5 := Lib.hid (bbt HB3.out hb4); clear hb4 d0 d1 d2 d3 d4 hGl; obtain ⟨c0, c1, c2, c3, c4⟩ := HX5.out.boxc; have f0 := HX5.out.frozen 0; have f1 := HX5.out.frozen 1; have f2 := HX5.out.frozen 2; have f3 := HX5.out.frozen 3; have f4 := HX5.out.frozen 4; have hlt1 := HX5.out.lt))
      refine bodyPost_ret (results_cell rfl rfl (HX5.out.set5 0 0 0 0 none 0 0).boxc) rfl ?_
      exact ⟨.inr ⟨HDD.out, rfl⟩, (wr_set5 _ _ _ _ _ _ _).below HB5.out (by have := HB5.out.size; omega) (Nat.le_refl _)⟩

theorem decode_by {w : World} {v : Value} {n : Nat} {f : Nat → Nat} (h : Byt w v n f) (hn : n ≤ 9223372036854775807) : Calls Try.prog 72 #[v] w fun e w' => DecPost w w' e n f := by
  have h0 := h
  obtain ⟨A, c, rfl, _, _, _⟩ := h
  by_cases hl : n = 64
  · subst hl
    cases ho : OpenB f 64
    · exact decode_shut A c f w h0 ho
    · by_cases hk : 49 < f 14
      · exact decode_many A c f w h0 ho hk
      · exact decode_open A c f w h0 ho hk
  · exact decode_len A n c f w hl hn
end Go.Proofs.Yteeomidlnijfbaa

/- Whether a cell may be, by the document; how many cells a record has: both sides. -/
namespace Go.Proofs.Yteeomidlnijfbaa
open Go.RowKit
set_option linter.unusedSimpArgs false
set_option linter.unusedVariables false

set_option maxRecDepth 100000 in
set_option maxHeartbeats 2000000 in
theorem rmay_any (g s : Nat) (p q : Int) (A : Option Addr) (n c : Nat) (w : World) (hn : n ≤ 9223372036854775807) :
    Calls Try.prog 69 #[cellV g s p q A n c] w fun e w' => e = .returned (.bool (decide (mayP p q n))) ∧ Below w.heap.size w w' := by
  obtain ⟨B, hB⟩ : ∃ B, decide (mayP p q n) = B := ⟨_, rfl⟩
  rw [hB]
  have HBD := Lib.hid hB
  clear hB
  have HW := Lib.hid (below_new w (.cells #[.int .u32 (g : Nat), .int .u32 (s : Nat), .int .i64 p, .int .i64 q, .slice A n c] 97))
  have fin : ∀ b : Bool, (b = true ↔ mayP p q n) → b = B := fun b hb => by
    rw [← HBD.out]
    cases b
    · exact (decide_eq_false (fun h => by have := hb.2 h; cases this)).symm
    · exact (decide_eq_true (hb.1 rfl)).symm
  have FIN := Lib.hid fin
  clear fin HBD
  by_cases h1 : q < 1
  · go_enter Try.func69, Try.ntmps69
    go_wp2
    go_ret
    exact ⟨congrArg (fun b => Ending.returned (.bool b)) (FIN.out _ (by unfold mayP; simp; omega)), by first | exact HW.out | exact Below.drewN_ HW.out _ | exact Below.drew_ HW.out⟩
  by_cases h2 : 8 < q
  · go_enter Try.func69, Try.ntmps69
    go_wp2
    go_ret
    exact ⟨congrArg (fun b => Ending.returned (.bool b)) (FIN.out _ (by unfold mayP; simp; omega)), by first | exact HW.out | exact Below.drewN_ HW.out _ | exact Below.drew_ HW.out⟩
  by_cases h3 : p < 0
  · go_enter Try.func69, Try.ntmps69
    go_wp2
    go_ret
    exact ⟨congrArg (fun b => Ending.returned (.bool b)) (FIN.out _ (by unfold mayP; simp; omega)), by first | exact HW.out | exact Below.drewN_ HW.out _ | exact Below.drew_ HW.out⟩
  by_cases h4 : q ≤ p
  · go_enter Try.func69, Try.ntmps69
    go_wp2
    go_ret
    exact ⟨congrArg (fun b => Ending.returned (.bool b)) (FIN.out _ (by unfold mayP; simp; omega)), by first | exact HW.out | exact Below.drewN_ HW.out _ | exact Below.drew_ HW.out⟩
  by_cases h5 : n < 1
  · go_enter Try.func69, Try.ntmps69
    go_wp2
    go_ret
    exact ⟨congrArg (fun b => Ending.returned (.bool b)) (FIN.out _ (by unfold mayP; simp; omega)), by first | exact HW.out | exact Below.drewN_ HW.out _ | exact Below.drew_ HW.out⟩
  by_cases h6 : 49 < n
  · go_enter Try.func69, Try.ntmps69
    go_wp2
    go_ret
    exact ⟨congrArg (fun b => Ending.returned (.bool b)) (FIN.out _ (by unfold mayP; simp; omega)), by first | exact HW.out | exact Below.drewN_ HW.out _ | exact Below.drew_ HW.out⟩
  by_cases h7 : p = q - 1
  · subst h7
    go_enter Try.func69, Try.ntmps69
    go_wp2
    go_ret
    exact ⟨congrArg (fun b => Ending.returned (.bool b)) (FIN.out _ (by unfold mayP; simp; omega)), by first | exact HW.out | exact Below.drewN_ HW.out _ | exact Below.drew_ HW.out⟩
  · go_enter Try.func69, Try.ntmps69
    go_wp2
    go_ret
    exact ⟨congrArg (fun b => Ending.returned (.bool b)) (FIN.out _ (by unfold mayP; simp; omega)), by first | exact HW.out | exact Below.drewN_ HW.out _ | exact Below.drew_ HW.out⟩

end Go.Proofs.Yteeomidlnijfbaa
