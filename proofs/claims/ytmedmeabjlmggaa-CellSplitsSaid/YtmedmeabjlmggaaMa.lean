/- CellSplits: are cells few; the document's Split and Join. -/
import Derived.Test.YtmedmeabjlmggaaKn
import Derived.Test.YtmedmeabjlmggaaKy
import Derived.Test.YtmedmeabjlmggaaKt
namespace Go.Proofs.Ytmedmeabjlmggaa
open Go.RowKit
set_option linter.unusedSimpArgs false
set_option linter.unusedVariables false

/-- How many bytes the first k cells have. -/
def accN (X : Nat → CellD) : Nat → Nat
  | 0 => 0
  | k + 1 => accN X k + (X k).n
theorem acc_le {X : Nat → CellD} {B : Nat} : ∀ k, (∀ i, i < k → (X i).n ≤ B) → accN X k ≤ k * B
  | 0, _ => by show 0 ≤ _; omega
  | k + 1, h => by
    have := acc_le k fun i hi => h i (by omega)
    have := h k (by omega)
    show accN X k + (X k).n ≤ _
    rw [Nat.add_mul]; omega
theorem acc_ge {X : Nat → CellD} : ∀ k i, i < k → (X i).n ≤ accN X k
  | 0, i, h => absurd h (by omega)
  | k + 1, i, h => by
    show _ ≤ accN X k + (X k).n
    by_cases hk : i < k
    · have := acc_ge (X := X) k i hk; omega
    · obtain rfl : i = k := by omega
      omega
def SmallPost (w w' : World) (e : Ending) (n : Nat) (X : Nat → CellD) : Prop := e = .returned (.bool (decide (n < 30 ∧ accN X n < 3000))) ∧ Below w.heap.size w w'
set_option maxRecDepth 100000 in
set_option maxHeartbeats 2000000 in
theorem small_any (A : Option Addr) (n c : Nat) (X : Nat → CellD) (w : World) (h : CellsAt w A n X) (hn : n ≤ 9223372036854775807) (hX : ∀ i, i < n → (X i).n ≤ 140737488355328) :
    Calls Try.prog 8 #[.slice A n c] w fun e w' => SmallPost w w' e n X := by
  have HC := Lib.hid h
  have HX := Lib.hid hX
  clear h hX
  go_enter Try.func8, Try.ntmps8
  go_wp2
  go_loopw [3, 4] (fun v3 v4 wr => ∃ k s : Nat, k ≤ n ∧ k ≤ 30 ∧ v3 = .int .i64 (s : Nat) ∧ v4 = .int .i64 (k : Nat) ∧ wr = w ∧ s = accN X k) (fun _ v4 _ => n - (intOf v4).toNat)
  case atStart => exact ⟨0, 0, by omega, by omega, rfl, rfl, rfl, rfl⟩
  case round =>
    obtain ⟨k, s, hkn, hk30, rfl, rfl, rfl, hs⟩ := hrel
    have hac := acc_le (X := X) (B := 140737488355328) k fun i hi => HX.out i (by omega)
    rw [← hs] at hac
    have HS := Lib.hid hs
    clear hs
    by_cases hlt : k < n
    · by_cases h30 : k < 30
      · obtain ⟨ad, rfl, hxk⟩ := HC.out k hlt
        obtain ⟨p0, p1, p2, p3, p4, p5, p6, p7⟩ := hxk
        have q4 : wr.cell? ⟨(ad.add (k * 5)).block, (ad.add (k * 5)).off + 4, none⟩ = _ := p5
        have hxn := HX.out k hlt
        have HS2 := Lib.hid (show s + (X k).n = accN X (k + 1) from by rw [HS.out]; rfl)
        clear p1 p2 p3 p4 p5 p6 p7
        generalize (X k).n = xn at *
        have hsx2 : (s : Int) + (xn : Int) ≤ 9223372036854775807 := by omega
        have d30 : decide ((k : Int) < 30) = true := by rw [decide_eq_true_eq]; omega
        have dkn : decide ((k : Int) < (n : Int)) = true := by rw [decide_eq_true_eq]; omega
        go_wp2
        go_roundw
        case rel => exact ⟨k + 1, s + xn, by omega, by omega, by go_num, by go_num, by first | trivial | rfl, HS2.out⟩
        case measure => simp [intOf]; omega
      · obtain rfl : k = 30 := by omega
        have hn30 : ¬ ((n : Int) < 30) := by omega
        have dn30 : decide ((n : Int) < 30) = false := by rw [decide_eq_false_iff_not]; omega
        have dkn : decide ((30 : Int) < (n : Int)) = true := by rw [decide_eq_true_eq]; omega
        have HR := Lib.hid (show decide (n < 30 ∧ accN X n < 3000) = false from by rw [decide_eq_false_iff_not]; omega)
        go_wp2
        go_ret
        exact ⟨by rw [HR.out]; rfl, Below.refl _ _⟩
    · obtain rfl : k = n := by omega
      have dkn : decide ((k : Int) < (k : Int)) = false := by rw [decide_eq_false_iff_not]; omega
      by_cases h30 : k < 30
      · have d30 : decide ((k : Int) < 30) = true := by rw [decide_eq_true_eq]; omega
        by_cases hs3 : s < 3000
        · have ds : decide ((s : Int) < 3000) = true := by rw [decide_eq_true_eq]; omega
          have HR := Lib.hid (show decide (k < 30 ∧ accN X k < 3000) = true from by rw [decide_eq_true_eq, ← HS.out]; exact ⟨h30, hs3⟩)
          go_wp2
          go_ret
          exact ⟨by rw [HR.out]; rfl, Below.refl _ _⟩
        · have hs4 : ¬ ((s : Int) < 3000) := by omega
          have ds : decide ((s : Int) < 3000) = false := by rw [decide_eq_false_iff_not]; omega
          have HR := Lib.hid (show decide (k < 30 ∧ accN X k < 3000) = false from by rw [decide_eq_false_iff_not, ← HS.out]; omega)
          go_wp2
          go_ret
          exact ⟨by rw [HR.out]; rfl, Below.refl _ _⟩
      · have hn30 : ¬ ((k : Int) < 30) := by omega
        have d30 : decide ((k : Int) < 30) = false := by rw [decide_eq_false_iff_not]; omega
        have HR := Lib.hid (show decide (k < 30 ∧ accN X k < 3000) = false from by rw [decide_eq_false_iff_not]; omega)
        go_wp2
        go_ret
        exact ⟨by rw [HR.out]; rfl, Below.refl _ _⟩

/-- One part in the document's way. -/
theorem rslice_part (R : Addr) (n c k m : Nat) (hk : 49 * k < m) (hm : m ≤ n) (hc : n ≤ c) (wq : World) :
    (Instr.slice 24 (.slice (some R) n c) (some (.int .i64 (49 * (k : Int)))) (some (.int .i64 (m : Nat))) none).run Try.prog wq = .ok (.slice (some (R.add (49 * k))) (m - 49 * k) (c - 49 * k)) wq := by
  rw [show (49 * (k : Int)) = ((49 * k : Nat) : Int) from by omega, run_slice_lh wq 24 (some R) n c el8 .i64 .i64 _ _ (by omega) (by omega) (by omega), sz8]
  simp only [Result.andThen, sliced, Int.toNat_natCast, Nat.mul_one, Option.map_some]
  rw [if_neg (by omega)]
theorem cell_new {w : World} {D : CellD} (hr : Rd .u8 w D.A D.n D.f) (hD : D.good) : CellsAt (w.alloc (.cells #[.int .u32 (D.g : Nat), .int .u32 (D.s : Nat), .int .i64 D.p, .int .i64 D.q, .slice D.A D.n D.c] 62)) (some ⟨w.heap.size, 0, none⟩) 1 (fun _ => D) := fun i hi => by
  obtain rfl : i = 0 := by omega
  have h := BoxC.new w D.g D.s D.p D.q D.A D.n D.c
  exact ⟨⟨w.heap.size, 0, none⟩, rfl, h.lt, h.1, h.2.1, h.2.2.1, h.2.2.2.1, h.2.2.2.2, hr.below (below_new _ _), hD⟩
/-- A part's cell, in the document's way. -/
def partE (g s N : Nat) (R : Addr) (n c : Nat) (f : Nat → Nat) (i : Nat) : CellD := ⟨g, s, (i : Nat), (N : Nat), some (R.add (49 * i)), dl n i, c - 49 * i, fun j => f (49 * i + j)⟩
def appF2 (f : Nat → Nat) : Nat → Nat := f
set_option maxRecDepth 100000 in
set_option maxHeartbeats 4000000 in
theorem rsplit_yes (g s : Nat) (R : Addr) (n c : Nat) (f : Nat → Nat) (w : World) (hg : g < 4294967296) (hs : s < 4294967296) (hr : Rd .u8 w (some R) n f) (hf : ∀ j, j < n → f j < 256) (hc : n ≤ c) (hcc : c ≤ 9223372036854775807) (h1 : 0 < n) (h2 : n ≤ 392) :
    Calls Try.prog 10 #[.int .u32 (g : Nat), .int .u32 (s : Nat), .slice (some R) n c] w fun e w' => SplitPost w w' e g s n f := by
  obtain ⟨N, hN⟩ : ∃ N, needF n = N := ⟨_, rfl⟩
  have hN8 : N ≤ 8 := by rw [← hN]; exact need_few n
  have hN1 : 1 ≤ N := by unfold needF at hN; rw [if_neg (by omega)] at hN; omega
  have hN2 : N = (n + 48) / 49 := by unfold needF at hN; rw [if_neg (by omega)] at hN; omega
  have HN : Hid (∀ u : World, Calls Try.prog 16 #[.int .i64 (n : Nat)] u fun e w' => e = .returned (.int .i64 (N : Nat)) ∧ u = w') := fun u => (rneed_any n u (by omega)).mono fun e w' h => ⟨by rw [h.1, hN], h.2.symm⟩
  have HR := Lib.hid hr
  have HF := Lib.hid hf
  have HE := Lib.hid hN
  have HN2 := Lib.hid hN2
  have hNz : ((N : Int) == 0) = false := by rw [beq_eq_false_iff_ne]; omega
  have HG : Hid (∀ i, i < N → (partE g s N R n c f i).good) := fun i hi => ⟨hg, hs, by show _ ≤ ((i : Nat) : Int); omega, by show ((i : Nat) : Int) ≤ _; omega, by show _ ≤ ((N : Nat) : Int); omega, by show ((N : Nat) : Int) ≤ _; omega, by show dl n i ≤ c - 49 * i; unfold dl; omega, by show dl n i ≤ _; unfold dl; omega, fun j hj => hf _ (by have : j < dl n i := hj; unfold dl at this; omega), fun h => by cases h⟩
  have HRD : Hid (∀ (u : World), Below w.heap.size w u → ∀ i, i < N → Rd .u8 u (partE g s N R n c f i).A (partE g s N R n c f i).n (partE g s N R n c f i).f) := fun u hu i hi => ((hr.below hu).drop (k := 49 * i) (by omega)).less (m := dl n i) (by unfold dl; omega)
  clear hr hf hN hN2 hg hs
  go_enter Try.func10, Try.ntmps10
  go_wp2_with (go_at_call 16; refine (HN.out _).mono ?_; rintro e w' ⟨rfl, rfl⟩)
  go_loopw [9, 10, 11] (fun v9 v10 v11 wr => ∃ k : Nat, k ≤ N ∧ v10 = .int .i64 (k : Nat) ∧ OwnC wr w.heap.size v9 k (partE g s N R n c f) ∧ Below w.heap.size w wr) (fun _ v10 _ _ => N - (intOf v10).toNat)
  case atStart => exact ⟨0, by omega, rfl, ⟨rfl, .inl ⟨rfl, rfl⟩⟩, Below.refl _ _⟩
  case round =>
    obtain ⟨k, hk, rfl, hown, hbl⟩ := hrel
    have HO := Lib.hid hown
    have HB := Lib.hid hbl
    have hws := hbl.size
    clear hown hbl
    by_cases hlt : k < N
    · obtain ⟨m, hm⟩ : ∃ m, min (49 * k + 49) n = m := ⟨_, rfl⟩
      have hm1 : 49 * k < m ∧ m ≤ n := by have := HN2.out; omega
      have hsl := rslice_part R n c k m hm1.1 hm1.2 hc
      have hdl : dl n k = m - 49 * k := by unfold dl; rw [hm]
      have HOW := Lib.hid (HO.out.below (below_new wr (.cells #[.int .u32 (g : Nat), .int .u32 (s : Nat), .int .i64 (k : Nat), .int .i64 (N : Nat), .slice (some (R.add (49 * k))) (m - 49 * k) (c - 49 * k)] 62)))
      have HNW : Hid (CellsAt (wr.alloc (.cells #[.int .u32 (g : Nat), .int .u32 (s : Nat), .int .i64 (k : Nat), .int .i64 (N : Nat), .slice (some (R.add (49 * k))) (m - 49 * k) (c - 49 * k)] 62)) (some ⟨wr.heap.size, 0, none⟩) 1 (fun _ => partE g s N R n c f k)) := by
        have := cell_new (w := wr) (HRD.out wr HB.out k hlt) (HG.out k hlt)
        unfold partE at this
        rw [hdl] at this
        unfold partE
        rw [hdl]
        exact this
      have HM := Lib.hid hm
      clear hm hdl
      by_cases hgt : 49 * k + 49 > n
      · have hmn : m = n := by have := HM.out; omega
        subst hmn
        have hgi : 49 * (k : Int) + 49 > (m : Int) := by omega
        go_wp2_with (at_builtin; refine wpList_app_cells rfl rfl _ _ rfl w.heap.size _ k (partE g s N R m c f) rfl HOW.out ⟨wr.heap.size, 0, none⟩ 1 1 (fun _ => partE g s N R m c f k) rfl HNW.out (by omega) (by simp; omega) ?_; intro v2 w2 hown2 hb2 hs2)
        go_roundw
        case rel =>
          refine ⟨k + 1, by omega, by go_num, hown2.congr fun i hi => ?_, HB.out.trans (((below_new wr _).mono hws).trans hb2)⟩
          unfold appX
          by_cases hik : i < k
          · rw [if_pos hik]
          · rw [if_neg hik]; obtain rfl : i = k := by omega
            rfl
        case measure => simp [intOf]; omega
      · have hmn : m = 49 * k + 49 := by have := HM.out; omega
        have hgi : ¬ (49 * (k : Int) + 49 > (n : Int)) := by omega
        have hmi : ((m : Nat) : Int) = 49 * (k : Int) + 49 := by omega
        have hm49 : m - 49 * k = 49 := by omega
        rw [hmi, hm49] at hsl
        rw [hm49] at HOW HNW
        go_wp2_with (at_builtin; refine wpList_app_cells rfl rfl _ _ rfl w.heap.size _ k (partE g s N R n c f) rfl HOW.out ⟨wr.heap.size, 0, none⟩ 1 1 (fun _ => partE g s N R n c f k) rfl HNW.out (by omega) (by simp; omega) ?_; intro v2 w2 hown2 hb2 hs2)
        go_roundw
        case rel =>
          refine ⟨k + 1, by omega, by go_num, hown2.congr fun i hi => ?_, HB.out.trans (((below_new wr _).mono hws).trans hb2)⟩
          unfold appX
          by_cases hik : i < k
          · rw [if_pos hik]
          · rw [if_neg hik]; obtain rfl : i = k := by omega
            rfl
        case measure => simp [intOf]; omega
    · obtain rfl : k = N := by omega
      obtain ⟨gl, cl, rfl, _, hcl⟩ := HO.out.form hN1
      go_wp2
      go_ret2
      have hE := HE.out
      refine ⟨.inr ⟨by omega, ⟨gl, 0, none⟩, cl, partE g s k R n c f, by rw [hE]; rfl, by omega, ?_, ?_⟩, HB.out⟩
      · rw [hE]
        exact HO.out.at_ (HRD.out _ HB.out) HG.out
      · intro i hi
        exact ⟨rfl, rfl, rfl, by rw [hE]; rfl, rfl, fun j _ => rfl⟩
set_option maxHeartbeats 2000000 in
theorem rsplit_no (g s : Nat) (A : Option Addr) (n c : Nat) (f : Nat → Nat) (w : World) (hn : n ≤ 9223372036854775807) (hz : needF n = 0) :
    Calls Try.prog 10 #[.int .u32 (g : Nat), .int .u32 (s : Nat), .slice A n c] w fun e w' => SplitPost w w' e g s n f := by
  have HN : Hid (∀ u : World, Calls Try.prog 16 #[.int .i64 (n : Nat)] u fun e w' => e = .returned (.int .i64 0) ∧ u = w') := fun u => (rneed_any n u hn).mono fun e w' h => ⟨by rw [h.1, hz]; rfl, h.2.symm⟩
  have HZ := Lib.hid hz
  clear hz
  go_enter Try.func10, Try.ntmps10
  go_wp2_with (go_at_call 16; refine (HN.out _).mono ?_; rintro e w1 ⟨rfl, rfl⟩)
  go_ret2
  exact ⟨.inl ⟨HZ.out, rfl⟩, Below.refl _ _⟩
theorem rsplit_by {g s n : Nat} {A : Option Addr} {c : Nat} {f : Nat → Nat} {w : World} (hg : g < 4294967296) (hs : s < 4294967296) (hc : n ≤ c) (hcc : c ≤ 9223372036854775807) (hr : Rd .u8 w A n f) (hf : ∀ j, j < n → f j < 256) :
    Calls Try.prog 10 #[.int .u32 (g : Nat), .int .u32 (s : Nat), .slice A n c] w fun e w' => SplitPost w w' e g s n f := by
  by_cases hz : needF n = 0
  · exact rsplit_no g s A n c f w (by omega) hz
  · have h1 : 0 < n ∧ n ≤ 392 := by
      unfold needF at hz
      split at hz
      · omega
      · omega
    obtain ⟨ad, rfl, _⟩ := hr.some_ h1.1
    exact rsplit_yes g s ad n c f w hg hs hr hf hc hcc h1.1 h1.2
end Go.Proofs.Ytmedmeabjlmggaa
