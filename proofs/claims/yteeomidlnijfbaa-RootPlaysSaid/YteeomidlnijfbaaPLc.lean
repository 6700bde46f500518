/- Contract: the document's Decode. -/
import Derived.Test.YteeomidlnijfbaaPLb
import Derived.StillTailTactics
namespace Go.Proofs.Yteeomidlnijfbaa
open Go.RowKit
set_option linter.unusedSimpArgs false
set_option linter.unusedVariables false

/-- What the document's Decode says. -/
def DecPostR (w w' : World) (e : Ending) (n : Nat) (f : Nat → Nat) : Prop :=
  ((decP n f ∧ ∃ B c, e = .returned (.tuple #[cellV (num 256 (fun j => f (4 + j)) 4) (num 256 (fun j => f (8 + j)) 4) (f 12 : Nat) (f 13 : Nat) B (f 14) c, .int .i64 0]) ∧ Byt w' (.slice B (f 14) c) (f 14) (fun j => f (15 + j)) ∧ B ≠ none) ∨
   (¬ decP n f ∧ e = .returned (.tuple #[cellV 0 0 0 0 none 0 0, .int .i64 2]))) ∧ Below w.heap.size w w'
theorem decR_no {w w' : World} {n : Nat} {f : Nat → Nat} (h : ¬ decP n f) (hb : Below w.heap.size w w') : DecPostR w w' (.returned (.tuple #[cellV 0 0 0 0 none 0 0, .int .i64 2])) n f := ⟨.inr ⟨h, rfl⟩, hb⟩

theorem BoxH.set0 {u : World} {b g s : Nat} {p q : Int} {A : Option Addr} {n c : Nat} (h : BoxH u b g s p q A n c) (g' : Nat) : BoxH (u.setCell ⟨b, 0, none⟩ (.int .u32 (g' : Nat))) b g' s p q A n c := by
  unfold BoxH at *
  simp [World.setCell, Array.getElem?_modify, h]
theorem BoxH.set1b {u : World} {b g s : Nat} {p q : Int} {A : Option Addr} {n c : Nat} (h : BoxH u b g s p q A n c) (s' : Nat) : BoxH (u.setCell ⟨b, 1, none⟩ (.int .u32 (s' : Nat))) b g s' p q A n c := by
  unfold BoxH at *
  simp [World.setCell, Array.getElem?_modify, h]
set_option maxRecDepth 100000 in
set_option maxHeartbeats 2000000 in
theorem rdecode_len (A : Option Addr) (n c : Nat) (f : Nat → Nat) (w : World) (hn : n ≠ 64) (hn2 : n ≤ 9223372036854775807) :
    Calls Try.prog 60 #[.slice A n c] w fun e w' => DecPostR w w' e n f := by
  have HN := Lib.hid hn
  have hne : ((n : Int) != 64) = true := by rw [bne_iff_ne]; omega
  have hn3 : ¬ ((n : Int) = 64) := by omega
  clear hn
  go_enter Try.func60, Try.ntmps60
  go_wp2
  refine bodyPost_ret (results_cell rfl rfl (BoxC.new w 0 0 0 0 none 0 0)) rfl ?_
  exact decR_no (fun h => HN.out h.1) (below_new _ _)
set_option maxRecDepth 100000 in
set_option maxHeartbeats 2000000 in
theorem rdecode_many (ad : Addr) (c : Nat) (f : Nat → Nat) (w : World) (h : Rd .u8 w (some ad) 64 f) (hk : 49 < f 14) (hf : f 14 < 256) :
    Calls Try.prog 60 #[.slice (some ad) 64 c] w fun e w' => DecPostR w w' e 64 f := by
  have HP : Hid (¬ decP 64 f) := fun h => by have := h.2.2.1; omega
  have a14 : (w.alloc (.cells #[.int .u32 0, .int .u32 0, .int .i64 0, .int .i64 0, .slice none 0 0] 97)).cell? ⟨ad.block, ad.off + 14, none⟩ = some (.int .u8 (f 14 : Nat)) := (h.below (below_new _ _)).at_ (j := 14) (by omega)
  generalize f 14 = k at *
  clear h
  go_enter Try.func60, Try.ntmps60
  go_wp2
  refine bodyPost_ret (results_cell rfl rfl (BoxC.new w 0 0 0 0 none 0 0)) rfl ?_
  exact decR_no HP.out (below_new _ _)

set_option maxRecDepth 20000 in
set_option maxHeartbeats 2000000 in
theorem rdecode_few (ad : Addr) (c : Nat) (f : Nat → Nat) (w : World) (h : Rd .u8 w (some ad) 64 f) (hc : 64 ≤ c) (hf : ∀ j, j < 64 → f j < 256) (hk : f 14 ≤ 49) :
    Calls Try.prog 60 #[.slice (some ad) 64 c] w fun e w' => DecPostR w w' e 64 f := by
  have HR := Lib.hid h
  have HF := Lib.hid hf
  obtain ⟨B, hsl, hB⟩ := pre_at ad 64 c 15 (15 + f 14) f w h hc (by omega) (by omega)
  rw [Nat.add_sub_cancel_left] at hsl hB
  have HB := Lib.hid hB
  have a12 : (w.alloc (.cells #[.int .u32 0, .int .u32 0, .int .i64 0, .int .i64 0, .slice none 0 0] 97)).cell? ⟨ad.block, ad.off + 12, none⟩ = some (.int .u8 (f 12 : Nat)) := (h.below (below_new _ _)).at_ (j := 12) (by omega)
  have a13 : (w.alloc (.cells #[.int .u32 0, .int .u32 0, .int .i64 0, .int .i64 0, .slice none 0 0] 97)).cell? ⟨ad.block, ad.off + 13, none⟩ = some (.int .u8 (f 13 : Nat)) := (h.below (below_new _ _)).at_ (j := 13) (by omega)
  have a14 : (w.alloc (.cells #[.int .u32 0, .int .u32 0, .int .i64 0, .int .i64 0, .slice none 0 0] 97)).cell? ⟨ad.block, ad.off + 14, none⟩ = some (.int .u8 (f 14 : Nat)) := (h.below (below_new _ _)).at_ (j := 14) (by omega)
  have hx : f 12 < 256 := hf 12 (by omega)
  have hy : f 13 < 256 := hf 13 (by omega)
  obtain ⟨k, hK⟩ : ∃ k, f 14 = k := ⟨_, rfl⟩
  obtain ⟨x, hX⟩ : ∃ x, f 12 = x := ⟨_, rfl⟩
  obtain ⟨y, hY⟩ : ∃ y, f 13 = y := ⟨_, rfl⟩
  rw [hK] at hsl HB a14 hk
  rw [hX] at a12 hx
  rw [hY] at a13 hy
  have HKXY := Lib.hid (show _ ∧ _ ∧ _ from ⟨hK, hX, hY⟩)
  have s1 := fun wq => hsl wq 15 (15 + (k : Int)) rfl (by omega)
  have hal : ad.block < w.heap.size := by have := block_lt_of_cell (h.at_ (j := 0) (by omega)); exact this
  have hwx : IntKind.i64.wrap (x : Int) = x := IntWalk.i64_in _ (by omega)
  have hwy : IntKind.i64.wrap (y : Int) = y := IntWalk.i64_in _ (by omega)
  have hwk : IntKind.i64.wrap (k : Int) = k := IntWalk.i64_in _ (by omega)
  have hwk2 : IntKind.i64.wrap (15 + (k : Int)) = 15 + (k : Int) := IntWalk.i64_in _ (by omega)
  clear h hf hsl hB hK hX hY
  go_enter Try.func60, Try.ntmps60
  go_wp2
  go_region_held3 (fun u => u.cell? ⟨ad.block, ad.off + 12, none⟩ = some (.int .u8 (x : Nat)) ∧ u.cell? ⟨ad.block, ad.off + 13, none⟩ = some (.int .u8 (y : Nat)) ∧ u.cell? ⟨ad.block, ad.off + 14, none⟩ = some (.int .u8 (k : Nat))) (first | exact ⟨a12, a13, a14⟩ | trivial | go_keep) (fail)
  have hr3 : BoxH ((w.alloc (.cells #[.int .u32 0, .int .u32 0, .int .i64 0, .int .i64 0, .slice none 0 0] 97)).alloc (.cells #[.int .u32 0, .int .u32 0, .int .i64 (x : Nat), .int .i64 (y : Nat), .slice (some B) k (c - 15)] 97)).drew w.heap.size 0 0 0 0 none 0 0 := ((BoxH.new w 0 0 0 0 none 0 0).alloc _).drew
  have hx3 : BoxH ((w.alloc (.cells #[.int .u32 0, .int .u32 0, .int .i64 0, .int .i64 0, .slice none 0 0] 97)).alloc (.cells #[.int .u32 0, .int .u32 0, .int .i64 (x : Nat), .int .i64 (y : Nat), .slice (some B) k (c - 15)] 97)).drew (w.heap.size + 1) 0 0 (x : Nat) (y : Nat) (some B) k (c - 15) := by
    have := (BoxH.new (w.alloc (.cells #[.int .u32 0, .int .u32 0, .int .i64 0, .int .i64 0, .slice none 0 0] 97)) 0 0 (x : Nat) (y : Nat) (some B) k (c - 15)).drew
    rw [World.size_alloc] at this
    exact this
  have hb3 : Below w.heap.size w ((w.alloc (.cells #[.int .u32 0, .int .u32 0, .int .i64 0, .int .i64 0, .slice none 0 0] 97)).alloc (.cells #[.int .u32 0, .int .u32 0, .int .i64 (x : Nat), .int .i64 (y : Nat), .slice (some B) k (c - 15)] 97)).drew := Below.drew_ (bbt (below_new _ _) (below_new _ _))
  generalize ((w.alloc (.cells #[.int .u32 0, .int .u32 0, .int .i64 0, .int .i64 0, .slice none 0 0] 97)).alloc (.cells #[.int .u32 0, .int .u32 0, .int .i64 (x : Nat), .int .i64 (y : Nat), .slice (some B) k (c - 15)] 97)).drew = w3 at *
  have HR3 := Lib.hid hr3
  have HX3 := Lib.hid hx3
  have HB3 := Lib.hid hb3
  have hl3 : w.heap.size + 1 < w3.heap.size := hx3.lt
  clear hr3 hx3 hb3 a12 a13 a14 s1 hwx hwy hwk hwk2
  go_wp2
  go_loopw [5] (fun v wr => ∃ m : Nat, m ≤ 4 ∧ v = .int .i64 (3 - (m : Int)) ∧ BoxH wr (w.heap.size + 1) (horn (fun j => f (4 + j)) m) (horn (fun j => f (8 + j)) m) (x : Nat) (y : Nat) (some B) k (c - 15) ∧ Below (w.heap.size + 1) w3 wr) (fun v _ => (intOf v + 1).toNat)
  case atStart => exact ⟨0, by omega, rfl, HX3.out, Below.refl _ _⟩
  case round =>
    obtain ⟨m, hm, rfl, hbx, hbr⟩ := hrel
    have HBX := Lib.hid hbx
    have HBR := Lib.hid hbr
    have hl := hbx.lt
    clear hbx hbr
    by_cases hlt : m < 4
    · have hw := (HB3.out.trans (HBR.out.mono (Nat.le_succ _)))
      have hg1 := horn_lt (f := fun j => f (4 + j)) (fun j hj => HF.out _ (by omega)) m hm
      have hg2 := horn_lt (f := fun j => f (8 + j)) (fun j hj => HF.out _ (by omega)) m hm
      have b1 := (HR.out.below hw).at_ (j := 4 + (3 - m)) (by omega)
      have b2 := (HR.out.below hw).at_ (j := 8 + (3 - m)) (by omega)
      have hv1 := HF.out (4 + (3 - m)) (by omega)
      have hv2 := HF.out (8 + (3 - m)) (by omega)
      have HH1 : Hid (horn (fun j => f (4 + j)) (m + 1) = horn (fun j => f (4 + j)) m * 256 + f (4 + (3 - m))) := rfl
      have HH2 : Hid (horn (fun j => f (8 + j)) (m + 1) = horn (fun j => f (8 + j)) m * 256 + f (8 + (3 - m))) := rfl
      obtain ⟨G1, hG1⟩ : ∃ G1, horn (fun j => f (4 + j)) (m + 1) = G1 := ⟨_, rfl⟩
      obtain ⟨S1, hS1⟩ : ∃ S1, horn (fun j => f (8 + j)) (m + 1) = S1 := ⟨_, rfl⟩
      rw [hG1] at HH1
      rw [hS1] at HH2
      have HG1 := Lib.hid hG1
      have HS1 := Lib.hid hS1
      clear hG1 hS1
      generalize horn (fun j => f (4 + j)) m = G at *
      generalize horn (fun j => f (8 + j)) m = S at *
      generalize f (4 + (3 - m)) = d1 at *
      generalize f (8 + (3 - m)) = d2 at *
      have hp : 256 ^ m ≤ 16777216 := by
        have : m = 0 ∨ m = 1 ∨ m = 2 ∨ m = 3 := by omega
        rcases this with rfl | rfl | rfl | rfl <;> decide
      have hG : G < 16777216 := by omega
      have hS : S < 16777216 := by omega
      obtain ⟨c0, c1, c2, c3, c4⟩ := HBX.out.boxc
      have fz := fun j => HBX.out.frozen j
      have y0 : ¬ ((3 : Int) - (m : Int) < 0) := by omega
      have e1 : (4 : Int) + (3 - (m : Int)) = ((4 + (3 - m) : Nat) : Int) := by omega
      have e2 : (8 : Int) + (3 - (m : Int)) = ((8 + (3 - m) : Nat) : Int) := by omega
      have hwi : IntKind.i64.wrap (4 + (3 - (m : Int))) = ((4 + (3 - m) : Nat) : Int) := by rw [e1]; exact IntWalk.i64_in _ (by omega)
      have hwj : IntKind.i64.wrap (8 + (3 - (m : Int))) = ((8 + (3 - m) : Nat) : Int) := by rw [e2]; exact IntWalk.i64_in _ (by omega)
      have hi1 : 4 + (3 - m) < 64 := by omega
      have hi2 : 8 + (3 - m) < 64 := by omega
      clear hg1 hg2 hp e1 e2 hw
      generalize 4 + (3 - m) = i1 at *
      generalize 8 + (3 - m) = i2 at *
      have u1 : IntKind.u32.wrap ((G : Int) * 256) = (G : Int) * 256 := IntWalk.u32_in _ (by omega)
      have u2 : IntKind.u32.wrap (d1 : Int) = d1 := IntWalk.u32_in _ (by omega)
      have u3 : IntKind.u32.wrap ((G : Int) * 256 + d1) = (G1 : Int) := by rw [HH1.out]; rw [IntWalk.u32_in _ (by omega)]; omega
      have hi1I : (i1 : Int) < 64 := by omega
      go_wp2
      go_still_tail 11, (by kernel_rfl)
      change wpList _ _ _ _ _ wr.drew
      go_wp2
      change Code.wp _ _ _ _ (wr.drew.setCell ⟨w.heap.size + 1, 0, none⟩ (.int .u32 (G1 : Nat)))
      have hw4 : Wr (w.heap.size + 1) wr.drew (wr.drew.setCell ⟨w.heap.size + 1, 0, none⟩ (.int .u32 (G1 : Nat))) := Wr.set_ _ _ _ _
      have hx4 : BoxH (wr.drew.setCell ⟨w.heap.size + 1, 0, none⟩ (.int .u32 (G1 : Nat))) (w.heap.size + 1) G1 S (x : Nat) (y : Nat) (some B) k (c - 15) := HBX.out.drew.set0 G1
      have b4 : (wr.drew.setCell ⟨w.heap.size + 1, 0, none⟩ (.int .u32 (G1 : Nat))).cell? (ad.add i2) = some (.int .u8 (d2 : Nat)) := hw4.cell b2 (fun e => by rw [add_block] at e; injection e with e; omega)
      have hb4 : Below (w.heap.size + 1) w3 (wr.drew.setCell ⟨w.heap.size + 1, 0, none⟩ (.int .u32 (G1 : Nat))) := hw4.below (Below.drew_ HBR.out) (by have := HBR.out.size; simp; omega) (Nat.le_refl _)
      clear c0 c1 c2 c3 c4 fz b1 b2 u1 u2 u3 hw4 hi1I hwi
      generalize (wr.drew.setCell ⟨w.heap.size + 1, 0, none⟩ (.int .u32 (G1 : Nat))) = w4 at *
      have HX4 := Lib.hid hx4
      have HB4 := Lib.hid hb4
      obtain ⟨c0, c1, c2, c3, c4⟩ := hx4.boxc
      have fz := fun j => HX4.out.frozen j
      have hl4 := hx4.lt
      clear hx4 hb4
      have u1 : IntKind.u32.wrap ((S : Int) * 256) = (S : Int) * 256 := IntWalk.u32_in _ (by omega)
      have u2 : IntKind.u32.wrap (d2 : Int) = d2 := IntWalk.u32_in _ (by omega)
      have u3 : IntKind.u32.wrap ((S : Int) * 256 + d2) = (S1 : Int) := by rw [HH2.out]; rw [IntWalk.u32_in _ (by omega)]; omega
      have hi2I : (i2 : Int) < 64 := by omega
      go_still_tail 11, (by kernel_rfl)
      change wpList _ _ _ _ _ w4.drew
      go_wp2
      have hx5 := HX4.out.drew.set1b S1
      have hb5 := (Wr.set_ w4.drew (w.heap.size + 1) 1 (.int .u32 (S1 : Nat))).below (Below.drew_ HB4.out) (by have := HB4.out.size; simp; omega) (Nat.le_refl _)
      go_roundw
      case rel => exact ⟨m + 1, by omega, by go_num, by rw [HG1.out, HS1.out]; exact hx5, hb5⟩
      case measure => simp [intOf]; omega
    · obtain rfl : m = 4 := by omega
      have HRR := Lib.hid (HR3.out.keep HBR.out (Nat.lt_succ_self _))
      have HBW := Lib.hid (HB3.out.trans (HBR.out.mono (Nat.le_succ _)))
      have HG := Lib.hid (horn_num fun j => f (4 + j))
      have HS := Lib.hid (horn_num fun j => f (8 + j))
      rw [HG.out, HS.out] at HBX
      have hg : num 256 (fun j => f (4 + j)) 4 < 4294967296 := num4_lt (fun j hj => HF.out _ (by omega)) (Nat.le_refl _)
      have hs : num 256 (fun j => f (8 + j)) 4 < 4294967296 := num4_lt (fun j hj => HF.out _ (by omega)) (Nat.le_refl _)
      have HDI : Hid (mayP (x : Nat) (y : Nat) k → (decP 64 f ↔ ∀ j, j < 64 → sectF (num 256 (fun j => f (4 + j)) 4) (num 256 (fun j => f (8 + j)) 4) x y k (fun j => f (15 + j)) j = f j)) := by
        obtain ⟨e1, e2, e3⟩ := HKXY.out
        subst e1 e2 e3
        exact decP_iff HF.out
      have HDM : Hid (decP 64 f → mayP (x : Nat) (y : Nat) k) := by
        obtain ⟨e1, e2, e3⟩ := HKXY.out
        subst e1 e2 e3
        exact fun h => h.2.2.2.1
      have HFIN : Hid (∀ e w', DecPostR w w' e 64 f ↔ (((decP 64 f ∧ ∃ B c, e = .returned (.tuple #[cellV (num 256 (fun j => f (4 + j)) 4) (num 256 (fun j => f (8 + j)) 4) (x : Nat) (y : Nat) B k c, .int .i64 0]) ∧ Byt w' (.slice B k c) k (fun j => f (15 + j)) ∧ B ≠ none) ∨ (¬ decP 64 f ∧ e = .returned (.tuple #[cellV 0 0 0 0 none 0 0, .int .i64 2]))) ∧ Below w.heap.size w w')) := by
        obtain ⟨e1, e2, e3⟩ := HKXY.out
        subst e1 e2 e3
        exact fun e w' => Iff.rfl
      clear HG HS HR3 HX3
      generalize num 256 (fun j => f (4 + j)) 4 = G at *
      generalize num 256 (fun j => f (8 + j)) 4 = S at *
      obtain ⟨c0, c1, c2, c3, c4⟩ := HBX.out.boxc
      have q0 : (3 : Int) - ((4 : Nat) : Int) < 0 := by decide
      have HWI := Lib.hid (show Byt w (.slice (some ad) 64 c) 64 f from ⟨_, _, rfl, hc, HR.out, HF.out⟩)
      by_cases hm2 : mayP (x : Nat) (y : Nat) k
      · have HM := Lib.hid (decide_eq_true hm2)
        have HDI2 := Lib.hid (HDI.out hm2)
        clear hm2
        by_cases hsm : ∀ j, j < 64 → sectF G S x y k (fun j => f (15 + j)) j = f j
        · have HSM := Lib.hid hsm
          clear hsm
          go_wp2_with (first
            | (go_at_call 69; refine Calls.mono (rmay_any G S (x : Nat) (y : Nat) (some B) k (c - 15) _ (by omega)) ?_; rintro e w5 ⟨rfl, hb5⟩; rw [HM.out]; have HX5 := Lib.hid (HBX.out.below hb5); have HR5 := Lib.hid (HRR.out.below hb5); have HB5 := Lib.hid (bbt HBW.out hb5); clear hb5 c0 c1 c2 c3 c4; obtain ⟨c0, c1, c2, c3, c4⟩ := HX5.out.boxc; have hl5 := HX5.out.lt)
            | (go_at_call 70; refine Calls.mono (write_any G S x y B k (c - 15) (fun j => f (15 + j)) _ hg hs hx hy hk (HB.out.below HB5.out) (fun j hj => HF.out _ (by omega))) ?_; rintro e w6 ⟨⟨v6, rfl, hv6⟩, hb6⟩; have HV6 := Lib.hid hv6; have HX6 := Lib.hid (HX5.out.below hb6); have HR6 := Lib.hid (HR5.out.below hb6); have HB6 := Lib.hid (bbt HB5.out hb6); clear hv6 hb6)
            | (go_at_call 61; refine Calls.mono (rows_by HV6.out (HWI.out.below HB6.out) (by omega) (by omega)) ?_; rintro e w7 ⟨⟨b7, rfl, hb7⟩, hbl7⟩; obtain rfl := hb7.2 ⟨rfl, HSM.out⟩; have HX7 := Lib.hid (HX6.out.below hbl7); have HR7 := Lib.hid (HR6.out.below hbl7); have HB7 := Lib.hid (bbt HB6.out hbl7); clear hb7 hbl7 c0 c1 c2 c3 c4; obtain ⟨c0, c1, c2, c3, c4⟩ := HX7.out.boxc; have hl7 := HX7.out.lt; obtain ⟨r0, r1, r2, r3, r4⟩ := HR7.out.boxc; have fz := fun j => HR7.out.frozen j; have hlr := HR7.out.lt))
          refine bodyPost_ret (results_cell rfl rfl (HR7.out.set5 G S (x : Nat) (y : Nat) (some B) k (c - 15)).boxc) rfl ?_
          refine (HFIN.out _ _).2 ⟨.inl ⟨HDI2.out.2 HSM.out, some B, c - 15, rfl, ⟨_, _, rfl, by omega, ?_, fun j hj => HF.out _ (by omega)⟩, by simp⟩, (wr_set5 _ _ _ _ _ _ _).below HB7.out (by have := HB7.out.size; omega) (Nat.le_refl _)⟩
          exact (HB.out.below HB7.out).wr (fun a ha => by have h1 := (HB.out.some_ (by unfold mayP at *; have := of_decide_eq_true HM.out; omega)); obtain ⟨a', e1, h2⟩ := h1; rw [ha] at e1; injection e1 with e1; subst e1; omega) (wr_set5 _ _ _ _ _ _ _)
        · have HSM := Lib.hid hsm
          clear hsm
          go_wp2_with (first
            | (go_at_call 69; refine Calls.mono (rmay_any G S (x : Nat) (y : Nat) (some B) k (c - 15) _ (by omega)) ?_; rintro e w5 ⟨rfl, hb5⟩; rw [HM.out]; have HX5 := Lib.hid (HBX.out.below hb5); have HR5 := Lib.hid (HRR.out.below hb5); have HB5 := Lib.hid (bbt HBW.out hb5); clear hb5 c0 c1 c2 c3 c4; obtain ⟨c0, c1, c2, c3, c4⟩ := HX5.out.boxc; have hl5 := HX5.out.lt)
            | (go_at_call 70; refine Calls.mono (write_any G S x y B k (c - 15) (fun j => f (15 + j)) _ hg hs hx hy hk (HB.out.below HB5.out) (fun j hj => HF.out _ (by omega))) ?_; rintro e w6 ⟨⟨v6, rfl, hv6⟩, hb6⟩; have HV6 := Lib.hid hv6; have HR6 := Lib.hid (HR5.out.below hb6); have HB6 := Lib.hid (bbt HB5.out hb6); clear hv6 hb6)
            | (go_at_call 61; refine Calls.mono (rows_by HV6.out (HWI.out.below HB6.out) (by omega) (by omega)) ?_; rintro e w7 ⟨⟨b7, rfl, hb7⟩, hbl7⟩; obtain rfl : b7 = false := Bool.eq_false_iff.2 fun h => HSM.out (hb7.1 h).2; have HR7 := Lib.hid (HR6.out.below hbl7); have HB7 := Lib.hid (bbt HB6.out hbl7); clear hb7 hbl7 c0 c1 c2 c3 c4; obtain ⟨r0, r1, r2, r3, r4⟩ := HR7.out.boxc; have fz := fun j => HR7.out.frozen j; have hlr := HR7.out.lt))
          refine bodyPost_ret (results_cell rfl rfl (HR7.out.set5 0 0 0 0 none 0 0).boxc) rfl ?_
          exact (HFIN.out _ _).2 ⟨.inr ⟨fun h => HSM.out (HDI2.out.1 h), rfl⟩, (wr_set5 _ _ _ _ _ _ _).below HB7.out (by have := HB7.out.size; omega) (Nat.le_refl _)⟩
      · have HM := Lib.hid (decide_eq_false hm2)
        have HND := Lib.hid (show ¬ decP 64 f from fun h => hm2 (HDM.out h))
        clear hm2
        go_wp2_with (go_at_call 69; refine Calls.mono (rmay_any G S (x : Nat) (y : Nat) (some B) k (c - 15) _ (by omega)) ?_; rintro e w5 ⟨rfl, hb5⟩; rw [HM.out]; have HR7 := Lib.hid (HRR.out.below hb5); have HB7 := Lib.hid (bbt HBW.out hb5); clear hb5 c0 c1 c2 c3 c4; obtain ⟨r0, r1, r2, r3, r4⟩ := HR7.out.boxc; have fz := fun j => HR7.out.frozen j; have hlr := HR7.out.lt)
        refine bodyPost_ret (results_cell rfl rfl (HR7.out.set5 0 0 0 0 none 0 0).boxc) rfl ?_
        exact (HFIN.out _ _).2 ⟨.inr ⟨HND.out, rfl⟩, (wr_set5 _ _ _ _ _ _ _).below HB7.out (by have := HB7.out.size; omega) (Nat.le_refl _)⟩
theorem rdecode_by {w : World} {v : Value} {n : Nat} {f : Nat → Nat} (h : Byt w v n f) (hn : n ≤ 9223372036854775807) : Calls Try.prog 60 #[v] w fun e w' => DecPostR w w' e n f := by
  obtain ⟨A, c, rfl, hc, hr, hf⟩ := h
  by_cases hl : n = 64
  · subst hl
    obtain ⟨ad, rfl, _⟩ := hr.some_ (by omega)
    by_cases hk : 49 < f 14
    · exact rdecode_many ad c f w hr hk (hf 14 (by omega))
    · exact rdecode_few ad c f w hr hc hf (by omega)
  · exact rdecode_len A n c f w hl hn
end Go.Proofs.Yteeomidlnijfbaa
