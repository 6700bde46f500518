/- RatioRows: the walk. -/
import Derived.Test.YtglcififcldchaaGreatDoorPRcb
import Derived.Test.YtglcififcldchaaGreatDoorPRcc
import Derived.Test.YtglcififcldchaaGreatDoorPRra
namespace Go.Proofs.YtglcififcldchaaGreatDoor
open Go.RowKit
attribute [local go_sem ↓] Go.wp_at_zero Go.wp_at_succ
set_option linter.unusedVariables false

/-- F's first N bytes are those of the fractions from i on, up to k. -/
inductive CatQ (Q : Nat → Rat) (k : Nat) : Nat → Nat → (Nat → Nat) → Prop
  | done (F : Nat → Nat) : CatQ Q k k 0 F
  | step {i m N : Nat} {F : Nat → Nat} (hi : i < k) (h : EncQ (Q i) m F) (ht : CatQ Q k (i + 1) N (fun j => F (m + j))) : CatQ Q k i (m + N) F
theorem CatQ.first {Q : Nat → Rat} {k i n : Nat} {F : Nat → Nat} (h : CatQ Q k i n F) (hi : i < k) : ∃ m N, n = m + N ∧ EncQ (Q i) m F ∧ CatQ Q k (i + 1) N (fun j => F (m + j)) := by
  cases h with
  | done => omega
  | step _ h1 h2 => exact ⟨_, _, rfl, h1, h2⟩
theorem CatQ.last {Q : Nat → Rat} {k i n : Nat} {F : Nat → Nat} (h : CatQ Q k i n F) (hi : ¬ i < k) : n = 0 := by
  cases h with
  | done => rfl
  | step h0 _ _ => exact absurd h0 hi
theorem CatQ.more {Q : Nat → Rat} {k i N m : Nat} {F G : Nat → Nat} (h : CatQ Q k i N F) (hG : EncQ (Q k) m G) : CatQ Q (k + 1) i (N + m) (appF F N G) := by
  induction h with
  | done F =>
    have h1 : EncQ (Q k) m (appF F 0 G) := hG.congr fun j _ => by simp [appF]
    have := CatQ.step (k := k + 1) (Nat.lt_succ_self k) h1 (CatQ.done _)
    rwa [Nat.add_zero, ← Nat.zero_add m] at this
  | @step i m' N' F hi h1 _ ih =>
    have e : (fun j => appF F (m' + N') G (m' + j)) = appF (fun j => F (m' + j)) N' G := funext fun j => by
      unfold appF
      by_cases hj : j < N'
      · rw [if_pos (by omega), if_pos hj]
      · rw [if_neg (by omega), if_neg hj]
        congr 1
        omega
    have := CatQ.step (k := k + 1) (by omega) (h1.congr (F' := appF F (m' + N') G) fun j hj => by simp [appF, show j < m' + N' from by omega]) (by rw [e]; exact ih)
    rwa [← Nat.add_assoc] at this
def LoopB (w1 wr : World) (v : Value) (Q : Nat → Rat) (k i N : Nat) (F : Nat → Nat) : Prop :=
  Byt wr v N F ∧ CatQ Q k i N F ∧ N ≤ 160000 ∧ Below w1.heap.size w1 wr
def LoopA (w1 wr : World) (v : Value) (Q : Nat → Rat) (nn mm : Nat → Nat) (i N : Nat) (F : Nat → Nat) : Prop :=
  Own .u8 5 wr w1.heap.size v N F ∧ CatQ Q i 0 N F ∧ (∀ j, j < N → F j < 256) ∧ N ≤ i * 40000 ∧ Below w1.heap.size w1 wr ∧ ∀ j, j < i → nn j ≤ 4 ∧ mm j ≤ 4

set_option maxRecDepth 100000 in
set_option maxHeartbeats 4000000 in
theorem ratioRows_any (A : Option Addr) (k cap : Nat) (bb : Nat → Bool) (S : Nat → Option Addr) (nn cc : Nat → Nat) (ee : Nat → Bool) (T : Nat → Option Addr) (mm kk : Nat → Nat) (Q : Nat → Rat) (w : World) (hk : k ≤ 4)
    (hL : Rats w A k bb S nn cc ee T mm kk Q) :
    Calls Tryz.prog 11 #[.slice A k cap] w fun e w' => e = .returned (.bool true) ∧ Below w.heap.size w w' := by
  have g1 : (k : Int) ≤ 4 := by omega
  have HL := Lib.hid hL
  clear hL
  go_enter Tryz.func11, Tryz.ntmps11
  go_wp2_with fail
  refine Calls.mono (awake3 _) ?_
  rintro e w1 ⟨rfl, hb1⟩
  have HL1 := Lib.hid (HL.out.below hb1)
  have HB1 := Lib.hid hb1
  have HLW := Lib.hid HL1.out
  clear HL hb1
  go_wp2
  go_loopw [3, 4] (fun v3 v4 wr => ∃ (i N : Nat) (F : Nat → Nat), v4 = .int .i64 (i : Nat) ∧ i ≤ k ∧ LoopA w1 wr v3 Q nn mm i N F) (fun _ v4 _ => k - (intOf v4).toNat)
  case atStart => exact ⟨0, 0, fun _ => 0, rfl, Nat.zero_le _, Own.nil, CatQ.done _, fun j hj => absurd hj (by omega), by omega, Below.refl _ _, fun j hj => absurd hj (by omega)⟩
  case round =>
    obtain ⟨i, N, F, rfl, hi, hinv⟩ := hrel
    have HI := Lib.hid hinv
    clear hinv
    by_cases hlt : i < k
    · have hd := (HL1.out.below HI.out.2.2.2.2.1) i hlt
      obtain ⟨ad, rfl, hbl, hc0, hc1, hc2, hc3, hlim⟩ := hd
      have HQI := Lib.hid hlim
      obtain ⟨m, hmn⟩ : ∃ m, nn i = m := ⟨_, rfl⟩
      obtain ⟨m2, hmn2⟩ : ∃ m2, mm i = m2 := ⟨_, rfl⟩
      rw [hmn] at hc1 HQI
      rw [hmn2] at hc3 HQI
      have HMN := Lib.hid hmn
      have HMN2 := Lib.hid hmn2
      have hi0 : (0 : Int) ≤ (i : Int) := by omega
      have hik : (i : Int) < (k : Int) := by omega
      generalize bb i = b at *
      generalize S i = s at *
      generalize cc i = c at *
      generalize ee i = e4 at *
      generalize T i = t at *
      generalize kk i = c2 at *
      clear hlim hmn hmn2
      go_wp2_with fail
      refine Calls.mono (few3_any b s m c e4 t m2 c2 _) ?_
      rintro e w2 ⟨rfl, hb2⟩
      by_cases hf : m ≤ 4 ∧ m2 ≤ 4
      · obtain ⟨hf1, hf2⟩ := hf
        have LQ := Lib.hid ((HQI.out hf1 hf2).below hb2)
        have hc0x := (hb2.cell (p := ad.add (i * 4)) (by rw [add_block]; exact hbl)).trans hc0
        have hc1x := (hb2.cell (p := ⟨(ad.add (i * 4)).block, (ad.add (i * 4)).off + 1, none⟩) (by show (ad.add (i * 4)).block < _; rw [add_block]; exact hbl)).trans hc1
        have hc2x := (hb2.cell (p := ⟨(ad.add (i * 4)).block, (ad.add (i * 4)).off + 2, none⟩) (by show (ad.add (i * 4)).block < _; rw [add_block]; exact hbl)).trans hc2
        have hc3x := (hb2.cell (p := ⟨(ad.add (i * 4)).block, (ad.add (i * 4)).off + 3, none⟩) (by show (ad.add (i * 4)).block < _; rw [add_block]; exact hbl)).trans hc3
        have hbl2 : ad.block < w2.heap.size := Nat.lt_of_lt_of_le hbl hb2.size
        have HO2 := Lib.hid (HI.out.1.below hb2)
        have HBL2 := Lib.hid (below_trans HI.out.2.2.2.2.1 hb2)
        have hfd : (decide (m ≤ 4) && decide (m2 ≤ 4)) = true := by rw [decide_eq_true hf1, decide_eq_true hf2]; rfl
        rw [hfd]
        clear hb2 hc0 hc1 hc2 hc3 HQI hbl
        go_wp2_with fail
        refine Calls.mono (q_bytes LQ.out (by omega) (by omega)) ?_
        rintro e w3 ⟨v3, q, rfl, ⟨G, hby, henc⟩, hb3⟩
        obtain ⟨S3, c3, rfl, hby⟩ := hby.form
        have hq2 := henc.le
        have HBY3 := Lib.hid hby
        have HENC := Lib.hid henc
        have HO3 := Lib.hid (HO2.out.below hb3)
        have HBL3 := Lib.hid (below_trans HBL2.out hb3)
        have hNb : N ≤ i * 40000 := HI.out.2.2.2.1
        have hS3 : S3 = none → q = 0 ∧ c3 = 0 := fun e => by
          subst e
          obtain ⟨ad', e2, _⟩ := HBY3.out.rd.some_ (by omega)
          cases e2
        have hz3 : w1.heap.size ≤ w3.heap.size := HBL3.out.size
        clear hb3 hby henc
        go_wp2_with (at_builtin; refine wpList_app rfl (.tmp 29) (.tmp 34) 40 rfl .u8 5 Tryz.underlying40 1 u8_info (by omega) w1.heap.size _ N F rfl HO3.out S3 q c3 G rfl HBY3.out.rd hS3 (by omega) (by omega) ?_; intro v4 w4 hown4 hb4 hs4)
        have HINV : Hid (LoopA w1 w4 v4 Q nn mm (i + 1) (N + q) (appF F N G)) := ⟨hown4, HI.out.2.1.more HENC.out, fun j hj => by
            unfold appF
            by_cases h : j < N
            · rw [if_pos h]; exact HI.out.2.2.1 j h
            · rw [if_neg h]
              exact HBY3.out.small _ (by omega), by rw [Nat.add_mul]; omega, HBL3.out.trans hb4, fun j hj => by
            rcases Nat.lt_or_ge j i with h | h
            · exact HI.out.2.2.2.2.2 j h
            · obtain rfl : j = i := by omega
              rw [HMN.out, HMN2.out]; exact ⟨hf1, hf2⟩⟩
        clear hown4 hb4 hs4
        go_wp2
        go_roundw
        case rel => exact ⟨i + 1, N + q, _, by go_num, by omega, HINV.out⟩
        case measure => simp [intOf]; omega
      · have hfd : (decide (m ≤ 4) && decide (m2 ≤ 4)) = false := by
          rw [Bool.and_eq_false_iff, decide_eq_false_iff_not, decide_eq_false_iff_not]; omega
        have HBL2 := Lib.hid (below_trans HI.out.2.2.2.2.1 hb2)
        rw [hfd]
        clear hb2
        go_wp2
        go_ret
        exact ⟨rfl, below_trans HB1.out HBL2.out⟩
    · obtain rfl : i = k := by omega
      have HBY := Lib.hid (own_byt HI.out.1 HI.out.2.2.1)
      have HINV : Hid (LoopB w1 wr u3 Q i 0 N F) := ⟨HBY.out, HI.out.2.1, by have := HI.out.2.2.2.1; omega, HI.out.2.2.2.2.1⟩
      have HFEW := Lib.hid HI.out.2.2.2.2.2
      have HL4 := Lib.hid (fun (wq : World) (h : Below w1.heap.size w1 wq) => HLW.out.below h)
      clear HI HL1 HBY
      go_wp2
      go_loopw [3, 5] (fun v3 v5 wr => ∃ (j N : Nat) (F : Nat → Nat), v5 = .int .i64 (j : Nat) ∧ j ≤ i ∧ LoopB w1 wr v3 Q i j N F) (fun _ v5 _ => i - (intOf v5).toNat)
      case atStart => exact ⟨0, N, _, rfl, Nat.zero_le _, HINV.out⟩
      case round =>
        clear HINV
        obtain ⟨j, M, E, rfl, hj, hinv⟩ := hrel
        have HI := Lib.hid hinv
        clear hinv
        by_cases hlt : j < i
        · have hd := (HL4.out _ HI.out.2.2.2) j hlt
          obtain ⟨ad, rfl, hbl, hc0, hc1, hc2, hc3, hlim⟩ := hd
          have hfm := HFEW.out j hlt
          have HX := Lib.hid (hlim hfm.1 hfm.2)
          have HBQ := Lib.hid ((hlim hfm.1 hfm.2).bq (by omega))
          obtain ⟨q, M', hMq, henc, hcat⟩ := HI.out.2.1.first hlt
          have hq2 := henc.le
          obtain ⟨e1, e2, e3, e4⟩ := henc.read (n := M) (by omega) (fun _ _ => rfl)
          have hM8 : M ≤ 160000 := HI.out.2.2.1
          have RD := q_read HI.out.1 (by omega)
          rw [e1, e2, e3] at RD
          have HRD := Lib.hid RD
          have HCAT := Lib.hid hcat
          have HE4 := Lib.hid e4
          have hi0 : (0 : Int) ≤ (j : Int) := by omega
          have hik : (j : Int) < (i : Int) := by omega
          generalize bb j = b at *
          generalize S j = s at *
          generalize nn j = m at *
          generalize cc j = c at *
          generalize ee j = e0 at *
          generalize T j = t at *
          generalize mm j = m2 at *
          generalize kk j = c2 at *
          generalize hXj : Q j = x at *
          clear hlim hfm henc e1 e2 e3 e4 RD hcat hXj
          go_wp2_with fail
          refine Calls.mono HRD.out ?_
          rintro e w2 ⟨va, vb, rfl, h2, hy2, hb2⟩
          have H2 := Lib.hid h2
          obtain ⟨ba, Aa, na, ca, bd, Ad, nd, cd, rfl, -, -, -, -, -⟩ := h2.form
          have HBL2 := Lib.hid (below_trans HI.out.2.2.2 hb2)
          have HY2 := Lib.hid (hy2.congr (F' := fun t => E (q + t)) (fun t _ => HE4.out t))
          have hc0x := (hb2.cell (p := ad.add (j * 4)) (by rw [add_block]; exact hbl)).trans hc0
          have hc1x := (hb2.cell (p := ⟨(ad.add (j * 4)).block, (ad.add (j * 4)).off + 1, none⟩) (by show (ad.add (j * 4)).block < _; rw [add_block]; exact hbl)).trans hc1
          have hc2x := (hb2.cell (p := ⟨(ad.add (j * 4)).block, (ad.add (j * 4)).off + 2, none⟩) (by show (ad.add (j * 4)).block < _; rw [add_block]; exact hbl)).trans hc2
          have hc3x := (hb2.cell (p := ⟨(ad.add (j * 4)).block, (ad.add (j * 4)).off + 3, none⟩) (by show (ad.add (j * 4)).block < _; rw [add_block]; exact hbl)).trans hc3
          have HX2 := Lib.hid (HX.out.below hb2)
          have hbl2 : ad.block < w2.heap.size := Nat.lt_of_lt_of_le hbl hb2.size
          clear hb2 hy2 h2 HRD HX hc0 hc1 hc2 hc3
          go_wp2
          generalize hW : World.alloc _ _ = wg
          have kg : Blk wg w2.heap.size 26 #[.bool ba, .slice Aa na ca, .bool bd, .slice Ad nd cd] := by
            rw [← hW]
            exact Blk.new _ _ (by simp) _ _
          have hbg : Below w2.heap.size w2 wg := by rw [← hW]; exact below_new _ _
          obtain ⟨p0, p1, p2, p3, dg⟩ := kg.use4
          have KG := Lib.hid kg
          have hc0g := (hbg.cell (p := ad.add (j * 4)) (by rw [add_block]; exact hbl2)).trans hc0x
          have hc1g := (hbg.cell (p := ⟨(ad.add (j * 4)).block, (ad.add (j * 4)).off + 1, none⟩) (by show (ad.add (j * 4)).block < _; rw [add_block]; exact hbl2)).trans hc1x
          have hc2g := (hbg.cell (p := ⟨(ad.add (j * 4)).block, (ad.add (j * 4)).off + 2, none⟩) (by show (ad.add (j * 4)).block < _; rw [add_block]; exact hbl2)).trans hc2x
          have hc3g := (hbg.cell (p := ⟨(ad.add (j * 4)).block, (ad.add (j * 4)).off + 3, none⟩) (by show (ad.add (j * 4)).block < _; rw [add_block]; exact hbl2)).trans hc3x
          have hblg : ad.block < wg.heap.size := Nat.lt_of_lt_of_le hbl2 hbg.size
          have HXg := Lib.hid (HX2.out.below hbg)
          have H2g := Lib.hid (H2.out.below hbg)
          have HYg := Lib.hid (HY2.out.below hbg)
          have HBg := Lib.hid (below_trans HBL2.out hbg)
          clear hW kg hbg hc0x hc1x hc2x hc3x HX2 H2 HY2 HBL2
          have tok5 : True := trivial
          have tok6 : True := trivial
          go_region_held3 (fun w' => w'.cell? ⟨w2.heap.size, 0, none⟩ = some (.bool ba) ∧ w'.cell? ⟨w2.heap.size, 1, none⟩ = some (.slice Aa na ca) ∧ w'.cell? ⟨w2.heap.size, 2, none⟩ = some (.bool bd) ∧ w'.cell? ⟨w2.heap.size, 3, none⟩ = some (.slice Ad nd cd) ∧ w'.cell? (ad.add (j * 4)) = some (.bool b) ∧ w'.cell? ⟨(ad.add (j * 4)).block, (ad.add (j * 4)).off + 1, none⟩ = some (.slice s m c) ∧ w'.cell? ⟨(ad.add (j * 4)).block, (ad.add (j * 4)).off + 2, none⟩ = some (.bool e0) ∧ w'.cell? ⟨(ad.add (j * 4)).block, (ad.add (j * 4)).off + 3, none⟩ = some (.slice t m2 c2)) (refine ⟨?_, ?_, ?_, ?_, ?_, ?_, ?_, ?_⟩ <;> first | with_reducible assumption | ((with_reducible refine Eq.trans (cell_drew _ _) ?_); with_reducible assumption) | go_keep)
            (first
              | (go_at_call 20; have _t := tok5; clear _t tok5; ((with_reducible refine Calls.mono (r_plain (k := 4) (q := x) (LimQ.drew_ HXg.out) (by omega)) ?_)); rintro e w5 ⟨v5, rfl, h5, hb5⟩; have k5 := (KG.out.drew_).below hb5; obtain ⟨x0, x1, x2, x3, d5⟩ := k5.use4; have hc0p := (hb5.cell (p := ad.add (j * 4)) (by rw [add_block]; exact hblg)).trans hc0g; have hc1p := (hb5.cell (p := ⟨(ad.add (j * 4)).block, (ad.add (j * 4)).off + 1, none⟩) (by show (ad.add (j * 4)).block < _; rw [add_block]; exact hblg)).trans hc1g; have hc2p := (hb5.cell (p := ⟨(ad.add (j * 4)).block, (ad.add (j * 4)).off + 2, none⟩) (by show (ad.add (j * 4)).block < _; rw [add_block]; exact hblg)).trans hc2g; have hc3p := (hb5.cell (p := ⟨(ad.add (j * 4)).block, (ad.add (j * 4)).off + 3, none⟩) (by show (ad.add (j * 4)).block < _; rw [add_block]; exact hblg)).trans hc3g; have hbl5 : ad.block < w5.heap.size := Nat.lt_of_lt_of_le hblg hb5.size; have K5 := Lib.hid k5; have HY5 := Lib.hid ((Byt.drew_ HYg.out).below hb5); have HB5 := Lib.hid (below_trans (Below.drew HBg.out) hb5); have H5 := Lib.hid h5; have H25 := Lib.hid ((IsRat.drew_ H2g.out).below hb5); clear h5 k5 hb5)
              | (go_at_call 18; have _t := tok6; clear _t tok6; ((with_reducible refine Calls.mono (rat_same H25.out H5.out HBQ.out (by omega)) ?_)); rintro e w6 ⟨rfl, hb6⟩; have k6 := K5.out.below hb6; obtain ⟨y0, y1, y2, y3, d6⟩ := k6.use4; have hc0q := (hb6.cell (p := ad.add (j * 4)) (by rw [add_block]; exact hbl5)).trans hc0p; have hc1q := (hb6.cell (p := ⟨(ad.add (j * 4)).block, (ad.add (j * 4)).off + 1, none⟩) (by show (ad.add (j * 4)).block < _; rw [add_block]; exact hbl5)).trans hc1p; have hc2q := (hb6.cell (p := ⟨(ad.add (j * 4)).block, (ad.add (j * 4)).off + 2, none⟩) (by show (ad.add (j * 4)).block < _; rw [add_block]; exact hbl5)).trans hc2p; have hc3q := (hb6.cell (p := ⟨(ad.add (j * 4)).block, (ad.add (j * 4)).off + 3, none⟩) (by show (ad.add (j * 4)).block < _; rw [add_block]; exact hbl5)).trans hc3p; have hbl6 : ad.block < w6.heap.size := Nat.lt_of_lt_of_le hbl5 hb6.size; have K6 := Lib.hid k6; have HY6 := Lib.hid (HY5.out.below hb6); have HB6 := Lib.hid (below_trans HB5.out hb6); clear k6 hb6))
          have HINV : Hid (LoopB w1 w6 vb Q i (j + 1) M' (fun t => E (q + t))) := ⟨by rw [show M' = M - q from by omega]; exact HY6.out, HCAT.out, by omega, HB6.out⟩
          go_wp2
          go_roundw
          case rel => exact ⟨j + 1, M', _, by go_num, by omega, HINV.out⟩
          case measure => simp [intOf]; omega
        · obtain rfl : j = i := by omega
          obtain rfl : M = 0 := HI.out.2.1.last (by omega)
          have HB5 := Lib.hid HI.out.2.2.2
          have HR1 := Lib.hid HI.out.1
          obtain ⟨S3, c3, rfl, hr1⟩ := HR1.out.form
          have HR2 := Lib.hid hr1
          have RD := q_read hr1 (by omega)
          obtain ⟨z1, z2⟩ := qRead_no (qOk_zero E)
          rw [qOk_zero, z1, z2] at RD
          have HRD := Lib.hid RD
          clear HI HL4 hr1 RD z1 z2 HR1
          go_wp2_with fail
          refine Calls.mono HRD.out ?_
          rintro e w2 ⟨va, vb, rfl, h2, -, hb2⟩
          obtain ⟨ba, Aa, na, ca, bd, Ad, nd, cd, rfl, -, -, -, -, -⟩ := h2.form
          have HR3 := Lib.hid (HR2.out.below hb2)
          have HB6 := Lib.hid (below_trans HB5.out hb2)
          clear hb2 h2 HRD HR2
          go_wp2_with fail
          refine Calls.mono (byt_rows (HR3.out.alloc_ _) (byt_nil _ E) (by omega) (fun t ht => absurd ht (by omega))) ?_
          rintro e w5 ⟨rfl, hb5⟩
          have HBZ := Lib.hid (below_trans HB1.out (below_trans HB6.out (bun hb5)))
          clear hb5
          go_wp2
          go_ret
          exact ⟨rfl, HBZ.out⟩

theorem ratioRows_out (A : Option Addr) (k cap : Nat) (w : World) (h1 : k ≤ 9223372036854775807) (h : 4 < k) :
    Calls Tryz.prog 11 #[.slice A k cap] w fun e w' => e = .returned (.bool true) ∧ Below w.heap.size w w' := by
  have g1 : (4 : Int) < (k : Int) := by omega
  go_enter Tryz.func11, Tryz.ntmps11
  go_wp2_with fail
  refine Calls.mono (awake3 _) ?_
  rintro e w1 ⟨rfl, hb1⟩
  have HB1 := Lib.hid hb1
  clear hb1 h
  go_wp2
  go_ret
  exact ⟨rfl, HB1.out⟩
end Go.Proofs.YtglcififcldchaaGreatDoor
