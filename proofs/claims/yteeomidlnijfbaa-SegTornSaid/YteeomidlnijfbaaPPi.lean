/- The walk of SegTorn. -/
import Derived.Test.YteeomidlnijfbaaPPh
namespace Go.Proofs.Yteeomidlnijfbaa
open Go.RowKit
set_option linter.unusedSimpArgs false
set_option linter.unusedVariables false

/-- The same, of a number as it stands. -/
def AppFitsZ (w w8 : World) (lb : Nat) (v : Value) (x : Int) (m : Nat) (R : Value → World → Prop) : Prop :=
  ∃ vs, w8.ownsRow w.heap.size 3 1 v m vs ∧ (∀ (j : Nat) (u : Value), [Value.int .i64 x][j]? = some u → w8.cell? ((⟨lb, 0, none⟩ : Addr).add j) = some u) ∧ (∀ u ∈ [Value.int .i64 x], u.oneCell' = true) ∧ w.heap.size ≤ w8.heap.size ∧ ∀ v' w', w'.ownsRow w.heap.size 3 1 v' (m + 1) (vs ++ [Value.int .i64 x]) → w8.grownBy w' v.ownBlock → (v'.ownBlock = v.ownBlock ∨ v'.ownBlock = some w8.heap.size) → R v' w'
set_option maxRecDepth 100000 in
set_option maxHeartbeats 8000000 in
theorem seg_torn (w : World) (k0 : Nat) (hk0 : k0 < 256) {A : Option Addr} {m c : Nat} {f : Nat → Nat} (hv : Byt w (.slice A m c) m f) (hm : m ≤ 9223372036854775807) :
    Calls Try.prog 5 #[.slice A m c, .int .u8 (k0 : Nat)] w fun e w' => e = .returned (.bool true) ∧ Below w.heap.size w w' := by
  have HV : Hid (∀ u j, Below w.heap.size w u → j < m → ∃ ad, A = some ad ∧ u.cell? (ad.add j) = some (.int .u8 (f j : Nat)) ∧ f j < 256) := fun u j hu hj => by
    obtain ⟨A', c', e, _, hr, hf⟩ := hv
    cases e
    obtain ⟨ad, e, hc⟩ := hr j hj
    exact ⟨ad, e, (hu.cell (block_lt_of_cell hc)).trans hc, hf j hj⟩
  have HNEW : Hid (∀ u, Below w.heap.size w u → Calls Try.prog 12 #[.int .i64 60] u fun e w' => ∃ gd, e = .returned (.tuple #[.pointer (some ⟨gd, 0, none⟩), .int .i64 0]) ∧ Held w w' gd (DS.new 60) fun _ => True) := fun u hu => held_new (w0 := w) (w := u) 60 (by omega) (by omega) hu
  have HMK : Hid (∀ u gd, Held w u gd (DS.new 60) (fun _ => True) → Calls Try.prog 13 #[.pointer (some ⟨gd, 0, none⟩), .int .i64 0, .int .i64 60, .int .u32 1] u fun e w' => ∃ gq, e = .returned (.tuple #[.pointer (some ⟨gq, 0, none⟩), .int .i64 0]) ∧ HeldG w w' gd gq (DS.new 60) ⟨0, 60, 1, 0, 4294967295⟩ fun _ => False) := fun u gd h => by
    have hh := h
    obtain ⟨F, Z, hF, _⟩ := hh
    refine (snew_ok hF 0 60 1 (by decide) (by decide) (by decide) (by decide)).mono ?_
    rintro e w' ⟨⟨gq, rfl, hg, hq⟩, hb⟩
    exact ⟨gq, rfl, HeldG.of (HeldS.of h hb hg hq)⟩
  have HS1 : Hid (∀ u gd gq, HeldG w u gd gq (DS.new 60) ⟨0, 60, 1, 0, 4294967295⟩ (fun _ => False) → Calls Try.prog 14 #[.pointer (some ⟨gq, 0, none⟩)] u fun e w' => ∃ v, e = .returned (.tuple #[v, .int .i64 0]) ∧ Calm (DS.new 60) ⟨0, 60, 1, 0, 0⟩ [] ∧ HeldG w w' gd gq (DS.new 60) ⟨0, 60, 1, 0, 0⟩ fun _ => False) := fun u gd gq h => by
    refine (h.scan rfl).mono ?_
    rintro e w' ⟨rs, en, v, l, rfl, hs, hr, hh, _⟩
    obtain ⟨rfl, rfl, ht, hc⟩ := calm_new (Q := ⟨0, 60, 1, 0, 4294967295⟩) rfl rfl rfl h.box.2 (by decide) (fun k _ _ => new_cell 60 k) hs
    rw [ht] at hc hh
    exact ⟨v, rfl, hc, hh⟩
  have HND : Hid (∀ (n : Nat) (u : World), n ≤ 1000 → Calls Try.prog 20 #[.int .i64 (n : Nat)] u fun e w' => e = .returned (.int .i64 (needF n : Nat)) ∧ u = w') := fun n u hn => (rneed_any n u (by omega)).mono fun e w' h => ⟨h.1, h.2.symm⟩
  clear hv
  by_cases hm20 : 20 < m
  · have hm1 : (20 : Int) < (m : Int) := by omega
    clear hm20
    go_enter Try.func5, Try.ntmps5
    go_wp2_with (first
      | (go_at_call 11; refine (awake7 _).mono ?_; rintro e w1 ⟨rfl, hb1⟩; have HB1 := Lib.hid hb1; clear hb1)
      | (go_at_call 12; refine (HNEW.out _ HB1.out).mono ?_; rintro e w2 ⟨gd, rfl, h2⟩; have H2 := Lib.hid h2; clear h2))
    go_ret
    exact ⟨rfl, H2.out.bel⟩
  · have hm1 : ¬ (20 : Int) < (m : Int) := by omega
    obtain ⟨NN, hNN⟩ : ∃ NN : Nat → Nat, ∀ j, NN j = 1 + f j % 98 := ⟨_, fun _ => rfl⟩
    have HNN := Lib.hid hNN
    have HN98 : Hid (∀ j, NN j ≤ 98 ∧ 1 ≤ NN j) := fun j => by rw [HNN.out]; omega
    clear hNN
    go_enter Try.func5, Try.ntmps5
    go_wp2_with (first
      | (go_at_call 11; refine (awake7 _).mono ?_; rintro e w1 ⟨rfl, hb1⟩; have HB1 := Lib.hid hb1; clear hb1)
      | (go_at_call 12; refine (HNEW.out _ HB1.out).mono ?_; rintro e w2 ⟨gd, rfl, h2⟩; have H2 := Lib.hid h2; clear h2)
      | (go_at_call 13; refine (HMK.out _ _ H2.out).mono ?_; rintro e w3 ⟨gq, rfl, h3⟩; have H3 := Lib.hid h3; clear h3)
      | (go_at_call 14; refine (HS1.out _ _ _ H3.out).mono ?_; rintro e w4 ⟨v4, rfl, hc4, h4⟩; have HC4 := Lib.hid hc4; have H4 := Lib.hid h4; clear hc4 h4))
    go_loopw [9, 10, 11, 12] (fun x9 x10 x11 x12 wr => ∃ (i : Nat) (G : Nat → Prop), i ≤ m ∧ x11 = .int .i64 (sumF NN i : Nat) ∧ x12 = .int .i64 (i : Nat) ∧ HeldG w wr gd gq (DS.new 60) ⟨0, 60, 1, 0, 0⟩ G ∧ ListG G wr w.heap.size x9 (recZ NN i) ∧ ListI G wr w.heap.size x10 i (fun j => sumF NN (j + 1))) (fun _ _ _ x12 _ => m - (intOf x12).toNat)
    case atStart => exact ⟨0, _, by omega, rfl, rfl, H4.out, ListG.nil, ListI.nil⟩
    case round =>
      obtain ⟨i, G, him, rfl, rfl, hh, hl, hi⟩ := hrel
      have HB := Lib.hid hh.bel
      have HH := Lib.hid hh
      have HL := Lib.hid hl
      have HI := Lib.hid hi
      clear hh hl hi
      by_cases hlt : i < m
      · obtain ⟨ad, rfl, hcell, hs⟩ := HV.out _ i HB.out hlt
        have j1 : (i : Int) < (m : Int) := by omega
        have hmk := HNN.out i
        generalize f i = s at *
        obtain ⟨q, hq⟩ : ∃ q, 1 + s % 98 = q := ⟨_, rfl⟩
        have hqI : (1 : Int) + (s : Int) % 98 = (q : Int) := by omega
        have hq98 : (q : Int) ≤ 98 := by omega
        have hq1 : 0 < q := by omega
        have HNI : Hid (NN i = q) := Lib.hid (hmk.trans hq)
        have HSI : Hid (sumF NN (i + 1) = sumF NN i + needF q) := Lib.hid (by show sumF NN i + needF (NN i) = _; rw [HNI.out])
        have HS40 : Hid (sumF NN i ≤ 40 ∧ i < 256) := Lib.hid ⟨Nat.le_trans (sumF_le NN (fun j => (HN98.out j).1) i) (by omega), by omega⟩
        have hs1 : (sumF NN i : Int) ≤ 40 := by have := HS40.out.1; omega
        have hnf := need_few q
        have hnf2 : (needF q : Int) ≤ 8 := by omega
        have HMADE : Hid (∀ w5 : World, w5.rowIs wr.heap.size 5 q (fun _ => .int .u8 0) → Below wr.heap.size wr w5 → w5.heap.size = wr.heap.size + 1 → AppFits w ((w5.setCell ⟨wr.heap.size, 0, none⟩ (.int .u8 (i : Nat))).alloc (.cells #[.slice (some ⟨wr.heap.size, 0, none⟩) q q] 35)) w5.heap.size u9 (.slice (some ⟨wr.heap.size, 0, none⟩) q q) i fun v' w' => ∃ G5, HeldG w w' gd gq (DS.new 60) ⟨0, 60, 1, 0, 0⟩ G5 ∧ ListG G5 w' w.heap.size v' (recZ NN (i + 1)) ∧ ListI G5 w' w.heap.size u10 i (fun j => sumF NN (j + 1))) := fun w5 h1 h2 h3 => by
          obtain ⟨a1, ⟨a2, a3⟩, a4, a5⟩ := torn_made HH.out h1 h2 h3 hq1 HS40.out.2
          have := torn_app a1 ((HL.out.below a4).mono fun k hk => .inl hk) ((HI.out.below a4).mono fun k hk => .inl hk) a2 a3 (by omega) fun k hk => .inr (by
            have e : wr.heap.size = k := by simpa [Value.ownBlock] using hk
            omega)
          rw [a5, recZ_len] at this
          rw [recZ_succ, HNI.out]
          exact this
        have HINT : Hid (∀ w9 G5 v9, HeldG w w9 gd gq (DS.new 60) ⟨0, 60, 1, 0, 0⟩ G5 → ListG G5 w9 w.heap.size v9 (recZ NN (i + 1)) → ListI G5 w9 w.heap.size u10 i (fun j => sumF NN (j + 1)) → AppFitsZ w (w9.alloc (.cells #[.int .i64 ((sumF NN i : Int) + (needF q : Int))] 3)) w9.heap.size u10 ((sumF NN i : Int) + (needF q : Int)) i fun v' w' => ∃ G7, HeldG w w' gd gq (DS.new 60) ⟨0, 60, 1, 0, 0⟩ G7 ∧ ListG G7 w' w.heap.size v9 (recZ NN (i + 1)) ∧ ListI G7 w' w.heap.size v' (i + 1) (fun j => sumF NN (j + 1))) := fun w9 G5 v9 h1 h2 h3 => by
          rw [show (sumF NN i : Int) + (needF q : Int) = ((sumF NN (i + 1) : Nat) : Int) from by rw [HSI.out]; omega]
          exact torn_int h1 h2 h3 rfl
        clear hmk hq hnf
        go_wp2_with (first
          | (at_make; refine wpList_make_rowIs rfl _ _ 35 rfl 5 (.int .u8 0) 1 Try.underlying35 u8_info rfl .i64 .i64 _ _ q rfl rfl rfl rfl (by omega) (by omega) ?_; intro w5 hrow5 hb5 hs5; have HAP := Lib.hid (HMADE.out w5 hrow5 hb5 hs5); have c5 : w5.cell? ⟨wr.heap.size, 0, none⟩ = some (.int .u8 0) := hrow5.cell (i := 0) (by omega); have z5 := hrow5.frozen 0; clear hrow5 hb5 hs5)
          | (go_at_call 20; refine (HND.out q _ (by omega)).mono ?_; rintro e w6 ⟨rfl, rfl⟩)
          | (at_builtin; obtain ⟨vs, o1, o2, o3, o4, o5⟩ := HAP.out; refine wpList_append_at rfl _ _ 32 rfl w.heap.size 35 (.slice none 0 0) 1 24 Try.underlying32 rows_info rfl (by omega) _ i vs rfl o1 ⟨w5.heap.size, 0, none⟩ 1 1 _ rfl rfl o2 o3 (by simp only [maxLen]; omega) (by omega) o4 ?_; intro v9 w9 p1 p2 p3; obtain ⟨G5, hh9, hl9, hi9⟩ := o5 v9 w9 p1 p2 p3; have HIN := Lib.hid (HINT.out w9 G5 v9 hh9 hl9 hi9); clear o1 o2 o3 o4 o5 p1 p2 p3 hh9 hl9 hi9 c5 z5 HAP)
          | (at_builtin; obtain ⟨vs, o1, o2, o3, o4, o5⟩ := HIN.out; refine wpList_append_at rfl _ _ 47 rfl w.heap.size 3 (.int .i64 0) 1 8 Try.underlying47 int_info7 rfl (by omega) _ i vs rfl o1 ⟨w9.heap.size, 0, none⟩ 1 1 _ rfl rfl o2 o3 (by simp only [maxLen]; omega) (by omega) o4 ?_; intro v11 w11 p1 p2 p3; obtain ⟨G7, hh11, hl11, hi11⟩ := o5 v11 w11 p1 p2 p3; have HH11 := Lib.hid hh11; have HL11 := Lib.hid hl11; have HI11 := Lib.hid hi11; clear o1 o2 o3 o4 o5 p1 p2 p3 hh11 hl11 hi11))
        exact ⟨⟨i + 1, G7, by omega, by rw [HSI.out, Int.natCast_add], by rw [Int.natCast_add]; rfl, HH11.out, HL11.out, HI11.out⟩, by simp [intOf]; omega⟩
      · obtain rfl : m = i := by omega
        have hrows := HL.out.rows
        rw [recZ_len] at hrows
        obtain ⟨A9, c9, R, h9, hR, hRI⟩ := hrows
        subst h9
        have HRN : Hid (∀ j, j < m → (R j).n = NN j ∧ (R j).f = rowZ j) := fun j hj => hR j _ (recZ_at hj)
        have HSN : Hid (∀ n, n ≤ m → sumN R n = sumF NN n) := fun n hn => sum_is fun j hj => (HRN.out j (by omega)).1
        have HRC : Hid (∀ n, n ≤ m → recsOf R n = recZ NN n) := fun n hn => recs_are fun j hj => HRN.out j (by omega)
        have HM20 : Hid (m ≤ 20) := Lib.hid (by omega)
        have HSM : Hid (sumF NN m ≤ 40) := Lib.hid (Nat.le_trans (sumF_le NN (fun j => (HN98.out j).1) m) (by have := HM20.out; omega))
        have HNZ : Hid (∀ j, j < m → needF (R j).n ≠ 0) := fun j hj => by rw [(HRN.out j hj).1]; exact (need_pos (HN98.out j).2 (by have := (HN98.out j).1; omega)).1
        have HFB : Hid (∀ j, j < m → ∀ i, i < (R j).n → (R j).f i < 256) := fun j hj i _ => by
          rw [(HRN.out j hj).2]
          unfold rowZ
          have := HM20.out
          split <;> omega
        have htk : takesC ⟨0, 60, 1, 0, 0⟩ m R = 0 := by
          unfold takesC
          rw [if_neg (by rintro ⟨j, hj, e⟩; exact HNZ.out j hj e), if_neg (by rw [HSN.out m (Nat.le_refl _)]; have := HSM.out; have := HM20.out; show ¬ (60 - 0 < sumF NN m ∨ 4294967295 - 0 < m); omega)]
        have HADD : Hid (Calls Try.prog 16 #[.pointer (some ⟨gq, 0, none⟩), .slice A9 m c9] wr fun e w' => ∃ S' en tp, e = .returned (.int .i64 0) ∧ AddS (DS.new 60) ⟨0, 60, 1, 0, 0⟩ m R S' ⟨0, 60, 1, en, tp⟩ 0 ∧ (S'.gone = false ∧ S'.left = 0 ∧ S'.P = [] ∧ S'.n = 60) ∧ HeldG w w' gd gq S' ⟨0, 60, 1, en, tp⟩ G ∧ Kept G wr w') := by
          refine (HH.out.add (c := c9) hRI (by have := HM20.out; omega) (by decide)).mono ?_
          rintro e w' ⟨S', Q', k, rfl, ha, h1, h2⟩
          rcases HC4.out.add (fun j hj i hi => HFB.out j hj i hi) ha with ⟨e, h0, _⟩ | ⟨rfl, _, hn, hq, hcc⟩
          · rw [htk] at e
            exact absurd e h0
          · subst hq
            exact ⟨S', _, _, rfl, ha, ⟨hcc.gone, hcc.left, hcc.P, hn⟩, h1, h2⟩
        obtain ⟨k, hk⟩ : ∃ k, k0 % 60 = k := ⟨_, rfl⟩
        have hkI : ((k0 : Nat) : Int) % 60 = (k : Int) := by omega
        have HK60 : Hid (k < 60) := Lib.hid (by omega)
        obtain ⟨A10, c10, h10⟩ := HI.out.form
        subst h10
        clear hRI htk hR hk
        go_wp2_with (first
          | (go_at_call 16; refine HADD.out.mono ?_; rintro e w4 ⟨S4, en, tp, rfl, ha4, hs4, h4, hk4⟩; have HA4 := Lib.hid ha4; have HS4 := Lib.hid hs4; have H44 := Lib.hid h4; have HL4 := Lib.hid (HL.out.kept hk4); have HI4 := Lib.hid (HI.out.kept hk4); clear ha4 hs4 h4 hk4)
          | (at_make; refine wpList_make_rowIs rfl _ _ 35 rfl 5 (.int .u8 0) 1 Try.underlying35 u8_info rfl .i64 .i64 _ _ 64 rfl rfl rfl rfl (by omega) (by omega) ?_; intro w5 hrow5 hb5 hs5; have HZ5 := Lib.hid (zero_row hrow5); have H5 := Lib.hid (H44.out.below hb5); have HL5 := Lib.hid (HL4.out.below hb5); have HI5 := Lib.hid (HI4.out.below hb5); clear hrow5 hb5 hs5)
          | (go_at_call 22; refine (H5.out.dwrite (by rw [HS4.out.2.2.1]; exact Nat.zero_le _) k HZ5.out).mono ?_; rintro e w6 ⟨rfl, h6, hk6⟩; have H6 := Lib.hid h6; have HL6 := Lib.hid (HL5.out.kept hk6); have HI6 := Lib.hid (HI5.out.kept hk6); clear h6 hk6)
          | (go_at_call 18; refine (torn_up7 H6.out HS4.out HK60.out HL6.out HI6.out).mono ?_; rintro e w7 ⟨rfl, S7, hs7, h7, hl7, hi7⟩; have HS7 := Lib.hid hs7; have H7 := Lib.hid h7; have HL7 := Lib.hid hl7; have HI7 := Lib.hid hi7; clear hs7 h7 hl7 hi7))
        rcases HL7.out.cap with ⟨hm0, hA9, hc9⟩ | ⟨g9, hA9, hcap⟩
        · subst hA9 hc9
          subst hm0
          have HNM : Hid (0 ≤ 0) := Nat.le_refl _
          have HSC2 := Lib.hid (torn_scan1 (n := 0) H7.out HL7.out HC4.out HA4.out HS7.out HM20.out HSM.out HSN.out HRC.out HNZ.out HFB.out HK60.out (Nat.le_refl _) (Nat.zero_le _) fun h => absurd h (by omega))
          go_loopw [15] (fun x15 wr2 => x15 = .int .i64 0 ∧ wr2 = w7) (fun x15 _ => 0)
          case atStart => exact ⟨rfl, rfl⟩
          case round =>
            obtain ⟨rfl, rfl⟩ := hrel
            go_wp2_with (first
              | (have _t := H9R; clear _t; go_at_call 14; refine (H9R.out.scan).mono ?_; rintro e w12 ⟨v12, rs12, rfl, hr12, hs12, hl12, hg12, hb12⟩; have HR12 := Lib.hid hr12; have HS12 := Lib.hid hs12; have HL12 := Lib.hid hl12; have HG12 := Lib.hid hg12; have HB12 := Lib.hid hb12; clear hr12 hs12 hl12 hg12 hb12)
              | (go_at_call 14; refine HSC2.out.mono ?_; rintro e w10 ⟨v10, rs10, Q10, G10, rfl, hr10⟩; have HR10 := Lib.hid hr10; clear hr10)
              | (go_at_call 16; refine (HR10.out.add9).mono ?_; rintro e w11 ⟨rfl, S11, Q11, G11, hr11⟩; have H9R := Lib.hid hr11; clear hr11)
              | (have _t := HTW; clear _t; go_at_call 19; refine (alikeL_yes (HR12.out.below HTW.out.2) HTW.out.1 HS12.out (by have := HS12.out.len; rw [this, List.length_append, recZ_len]; show 0 + 1 ≤ _; have := HM20.out; have := HNM.out; omega)).mono ?_; rintro e w17 ⟨rfl, hb17⟩; have HB17 := Lib.hid (bbt (bbt HAA.out HTW.out.2) hb17); clear hb17)
              | (go_at_call 19; refine (alikeL_yes HL12.out (HG12.out.first HNM.out) H9R.out.same.symm (by have := H9R.out.same.len; rw [recZ_len] at this; have := HM20.out; have := HNM.out; omega)).mono ?_; rintro e w13 ⟨rfl, hb13⟩; have HAA := Lib.hid (bbt HB12.out hb13); have HR13 := Lib.hid (HR12.out.below hb13); have HG13 := Lib.hid (HG12.out.below hb13); clear hb13 HR12; have HR12 := Lib.hid HR13.out)
              | (at_builtin; refine wpListW_append_none (by first | rfl | simp [Region.wanted, yielded]) _ _ 32 rfl w13.heap.size 35 (.slice none 0 0) 1 24 Try.underlying32 rows_info _ 0 [] rfl (own_none35 w13) rfl ?_; generalize hw14 : w13.alloc (.cells #[] 35) = w14; have HO14 := Lib.hid (show w14.ownsRow w13.heap.size 35 1 (.slice (some ⟨w13.heap.size, 0, none⟩) 0 0) 0 [] from hw14 ▸ own_none35 w13); have HB14 := Lib.hid (show Below w13.heap.size w13 w14 from hw14 ▸ below_new w13 (.cells #[] 35)); clear hw14)
              | (have _t := HO14; clear _t; at_builtin; refine wpListW_append_at (by first | rfl | simp [Region.wanted, yielded]) _ _ 32 rfl w13.heap.size 35 (.slice none 0 0) 1 24 Try.underlying32 rows_info rfl (by omega) _ 0 [] rfl (own_below HO14.out (lit1_below w14 9)) ⟨w14.heap.size + 1, 0, none⟩ 1 1 [.slice (some ⟨w14.heap.size, 0, none⟩) 1 1] rfl rfl (lit1_cell w14 9) lit1_one (by simp only [maxLen]; omega) (by omega) (lit1_base HB14.out) ?_; intro v16 w16 p1 p2 p3; have HTW := Lib.hid (torn_two (n := 0) (NN := NN) (b := 0) HB14.out rfl (fun i r h => by simp [recZ] at h) HO14.out p1 p2); clear p1 p2 p3))
            go_ret
            exact ⟨rfl, HB17.out⟩
        · subst hA9
          have HCAP := Lib.hid hcap
          clear hcap
          go_loopw [15] (fun x15 wr2 => ∃ n : Nat, n ≤ m ∧ x15 = .int .i64 (n : Nat) ∧ sumF NN n ≤ k ∧ wr2 = w7) (fun x15 _ => m - (intOf x15).toNat)
          case atStart => exact ⟨0, by omega, rfl, Nat.zero_le _, rfl⟩
          case round =>
            obtain ⟨n, hn, rfl, h1, rfl⟩ := hrel
            by_cases hnm : n < m
            · obtain ⟨g10, c10', e10, hc10⟩ := HI7.out.at_ hnm
              cases e10
              have j3 : (n : Int) < (m : Int) := by omega
              by_cases hle : sumF NN (n + 1) ≤ k
              · have j4 : ((sumF NN (n + 1) : Nat) : Int) ≤ (k : Int) := by omega
                have HLE := Lib.hid hle
                clear hle
                go_wp2
                exact ⟨⟨n + 1, by omega, by rw [Int.natCast_add]; rfl, HLE.out, trivial⟩, by simp [intOf]; omega⟩
              · have j4 : ¬ ((sumF NN (n + 1) : Nat) : Int) ≤ (k : Int) := by omega
                have HNM := Lib.hid hn
                have hnc9 : (n : Int) ≤ (c9 : Int) := by have := HCAP.out; omega
                have HSC2 := Lib.hid (torn_scan1 H7.out HL7.out HC4.out HA4.out HS7.out HM20.out HSM.out HSN.out HRC.out HNZ.out HFB.out HK60.out hn h1 fun _ => by omega)
                have hn20 : (n : Int) ≤ 20 := by have := HM20.out; omega
                clear hle h1 hn hnm
                go_wp2_with (first
                  | (have _t := H9R; clear _t; go_at_call 14; refine (H9R.out.scan).mono ?_; rintro e w12 ⟨v12, rs12, rfl, hr12, hs12, hl12, hg12, hb12⟩; have HR12 := Lib.hid hr12; have HS12 := Lib.hid hs12; have HL12 := Lib.hid hl12; have HG12 := Lib.hid hg12; have HB12 := Lib.hid hb12; clear hr12 hs12 hl12 hg12 hb12)
                  | (go_at_call 14; refine HSC2.out.mono ?_; rintro e w10 ⟨v10, rs10, Q10, G10, rfl, hr10⟩; have HR10 := Lib.hid hr10; clear hr10)
                  | (go_at_call 16; refine (HR10.out.add9).mono ?_; rintro e w11 ⟨rfl, S11, Q11, G11, hr11⟩; have H9R := Lib.hid hr11; clear hr11)
                  | (have _t := HTW; clear _t; go_at_call 19; refine (alikeL_yes (HR12.out.below HTW.out.2) HTW.out.1 HS12.out (by have := HS12.out.len; rw [this, List.length_append, recZ_len]; show n + 1 ≤ _; have := HM20.out; have := HNM.out; omega)).mono ?_; rintro e w17 ⟨rfl, hb17⟩; have HB17 := Lib.hid (bbt (bbt HAA.out HTW.out.2) hb17); clear hb17)
                  | (go_at_call 19; refine (alikeL_yes HL12.out (HG12.out.first HNM.out) H9R.out.same.symm (by have := H9R.out.same.len; rw [recZ_len] at this; have := HM20.out; have := HNM.out; omega)).mono ?_; rintro e w13 ⟨rfl, hb13⟩; have HAA := Lib.hid (bbt HB12.out hb13); have HR13 := Lib.hid (HR12.out.below hb13); have HG13 := Lib.hid (HG12.out.below hb13); clear hb13 HR12; have HR12 := Lib.hid HR13.out)
                  | (at_builtin; obtain ⟨news, hnl, hnc, hn1c, hnv⟩ := HG13.out.vals HNM.out; refine wpListW_append_at (by first | rfl | simp [Region.wanted, yielded]) _ _ 32 rfl w13.heap.size 35 (.slice none 0 0) 1 24 Try.underlying32 rows_info rfl (by omega) _ 0 [] rfl (own_none35 w13) ⟨g9, 0, none⟩ n c9 news rfl hnl (fun j u hu => ((below_new w13 (.cells #[] 35)).cell (block_lt_of_cell (hnc j u hu))).trans (hnc j u hu)) hn1c (by simp only [maxLen]; omega) (by omega) (by simp) ?_; intro v14 w14 p1 p2 p3; have HNL := Lib.hid hnl; have HNV := Lib.hid hnv; have HO14 := Lib.hid (show w14.ownsRow w13.heap.size 35 1 v14 n news from by have := p1; simpa using this); have HB14 := Lib.hid ((below_new w13 (.cells #[] 35)).grown p2 (by simp) fun k hk => by injection hk with hk; subst hk; exact Nat.le_refl _); clear p1 p2 p3 hnl hnc hn1c hnv)
                  | (have _t := HO14; clear _t; at_builtin; refine wpListW_append_at (by first | rfl | simp [Region.wanted, yielded]) _ _ 32 rfl w13.heap.size 35 (.slice none 0 0) 1 24 Try.underlying32 rows_info rfl (by omega) _ n news rfl (own_below HO14.out (lit1_below w14 9)) ⟨w14.heap.size + 1, 0, none⟩ 1 1 [.slice (some ⟨w14.heap.size, 0, none⟩) 1 1] rfl rfl (lit1_cell w14 9) lit1_one (by simp only [maxLen]; omega) (by omega) (lit1_base HB14.out) ?_; intro v16 w16 p1 p2 p3; have HTW := Lib.hid (torn_two (b := n) HB14.out HNL.out HNV.out HO14.out p1 p2); clear p1 p2 p3))
                go_ret
                exact ⟨rfl, HB17.out⟩
            · obtain rfl : n = m := by omega
              have j3 : ¬ (n : Int) < (n : Int) := by omega
              have HNM : Hid (n ≤ n) := Nat.le_refl _
              have hnc9 : (n : Int) ≤ (c9 : Int) := by have := HCAP.out; omega
              have HSC2 := Lib.hid (torn_scan1 H7.out HL7.out HC4.out HA4.out HS7.out HM20.out HSM.out HSN.out HRC.out HNZ.out HFB.out HK60.out hn h1 fun h => absurd h hnm)
              have hn20 : (n : Int) ≤ 20 := by have := HM20.out; omega
              clear h1 hn hnm
              go_wp2_with (first
                | (have _t := H9R; clear _t; go_at_call 14; refine (H9R.out.scan).mono ?_; rintro e w12 ⟨v12, rs12, rfl, hr12, hs12, hl12, hg12, hb12⟩; have HR12 := Lib.hid hr12; have HS12 := Lib.hid hs12; have HL12 := Lib.hid hl12; have HG12 := Lib.hid hg12; have HB12 := Lib.hid hb12; clear hr12 hs12 hl12 hg12 hb12)
                | (go_at_call 14; refine HSC2.out.mono ?_; rintro e w10 ⟨v10, rs10, Q10, G10, rfl, hr10⟩; have HR10 := Lib.hid hr10; clear hr10)
                | (go_at_call 16; refine (HR10.out.add9).mono ?_; rintro e w11 ⟨rfl, S11, Q11, G11, hr11⟩; have H9R := Lib.hid hr11; clear hr11)
                | (have _t := HTW; clear _t; go_at_call 19; refine (alikeL_yes (HR12.out.below HTW.out.2) HTW.out.1 HS12.out (by have := HS12.out.len; rw [this, List.length_append, recZ_len]; show n + 1 ≤ _; have := HM20.out; have := HNM.out; omega)).mono ?_; rintro e w17 ⟨rfl, hb17⟩; have HB17 := Lib.hid (bbt (bbt HAA.out HTW.out.2) hb17); clear hb17)
                | (go_at_call 19; refine (alikeL_yes HL12.out (HG12.out.first HNM.out) H9R.out.same.symm (by have := H9R.out.same.len; rw [recZ_len] at this; have := HM20.out; have := HNM.out; omega)).mono ?_; rintro e w13 ⟨rfl, hb13⟩; have HAA := Lib.hid (bbt HB12.out hb13); have HR13 := Lib.hid (HR12.out.below hb13); have HG13 := Lib.hid (HG12.out.below hb13); clear hb13 HR12; have HR12 := Lib.hid HR13.out)
                | (at_builtin; obtain ⟨news, hnl, hnc, hn1c, hnv⟩ := HG13.out.vals HNM.out; refine wpListW_append_at (by first | rfl | simp [Region.wanted, yielded]) _ _ 32 rfl w13.heap.size 35 (.slice none 0 0) 1 24 Try.underlying32 rows_info rfl (by omega) _ 0 [] rfl (own_none35 w13) ⟨g9, 0, none⟩ n c9 news rfl hnl (fun j u hu => ((below_new w13 (.cells #[] 35)).cell (block_lt_of_cell (hnc j u hu))).trans (hnc j u hu)) hn1c (by simp only [maxLen]; omega) (by omega) (by simp) ?_; intro v14 w14 p1 p2 p3; have HNL := Lib.hid hnl; have HNV := Lib.hid hnv; have HO14 := Lib.hid (show w14.ownsRow w13.heap.size 35 1 v14 n news from by have := p1; simpa using this); have HB14 := Lib.hid ((below_new w13 (.cells #[] 35)).grown p2 (by simp) fun k hk => by injection hk with hk; subst hk; exact Nat.le_refl _); clear p1 p2 p3 hnl hnc hn1c hnv)
                | (have _t := HO14; clear _t; at_builtin; refine wpListW_append_at (by first | rfl | simp [Region.wanted, yielded]) _ _ 32 rfl w13.heap.size 35 (.slice none 0 0) 1 24 Try.underlying32 rows_info rfl (by omega) _ n news rfl (own_below HO14.out (lit1_below w14 9)) ⟨w14.heap.size + 1, 0, none⟩ 1 1 [.slice (some ⟨w14.heap.size, 0, none⟩) 1 1] rfl rfl (lit1_cell w14 9) lit1_one (by simp only [maxLen]; omega) (by omega) (lit1_base HB14.out) ?_; intro v16 w16 p1 p2 p3; have HTW := Lib.hid (torn_two (b := n) HB14.out HNL.out HNV.out HO14.out p1 p2); clear p1 p2 p3))
              go_ret
              exact ⟨rfl, HB17.out⟩
end Go.Proofs.Yteeomidlnijfbaa
