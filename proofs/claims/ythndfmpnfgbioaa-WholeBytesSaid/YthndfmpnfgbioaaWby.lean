/- WholeBytes: the walk. -/
import Derived.Test.YthndfmpnfgbioaaWu
import Derived.Test.YthndfmpnfgbioaaWm
namespace Go.Proofs.Ythndfmpnfgbioaa
open Go.RowKit
attribute [local go_sem ↓] Go.wp_at_zero Go.wp_at_succ
set_option linter.unusedVariables false

/-- A row of k whole numbers. -/
def Ints (w : World) (A : Option Addr) (k : Nat) (bb : Nat → Bool) (S : Nat → Option Addr) (nn cc : Nat → Nat) (X : Nat → Int) : Prop :=
  ∀ i, i < k → ∃ ad, A = some ad ∧ ad.block < w.heap.size ∧ w.cell? (ad.add (i * 2)) = some (.bool (bb i)) ∧ w.cell? ((ad.add (i * 2)).add 1) = some (.slice (S i) (nn i) (cc i)) ∧ LimI (nn i) w (.agg #[.bool (bb i), .slice (S i) (nn i) (cc i)]) (X i)
theorem Ints.below {w w' : World} {A : Option Addr} {k : Nat} {bb : Nat → Bool} {S : Nat → Option Addr} {nn cc : Nat → Nat} {X : Nat → Int} (h : Ints w A k bb S nn cc X) (hb : Below w.heap.size w w') : Ints w' A k bb S nn cc X := fun i hi => by
  obtain ⟨ad, e, h0, h1, h2, h3⟩ := h i hi
  exact ⟨ad, e, Nat.lt_of_lt_of_le h0 hb.size, (hb.cell (p := ad.add (i * 2)) (by rw [add_block]; exact h0)).trans h1, (hb.cell (p := (ad.add (i * 2)).add 1) (by rw [add_block, add_block]; exact h0)).trans h2, h3.below hb⟩
theorem own_byt {w : World} {v : Value} {base n : Nat} {F : Nat → Nat} (h : Own .u8 5 w base v n F) (hF : ∀ j, j < n → F j < 256) : Byt w v n F := by
  rcases h.form with ⟨rfl, rfl⟩ | ⟨g, c, rfl, _, hc⟩
  · exact byt_nil _ _
  · exact ⟨_, c, rfl, hc, h.rd_, hF⟩
theorem Byt.drew_2 {w : World} {v : Value} {n : Nat} {f : Nat → Nat} (h : Byt w v n f) : Byt w.drew v n f := h
theorem Byt.congr {w : World} {v : Value} {n : Nat} {F F' : Nat → Nat} (h : Byt w v n F) (he : ∀ j, j < n → F j = F' j) : Byt w v n F' := by
  obtain ⟨A, c, h1, h2, h3, h4⟩ := h
  exact ⟨A, c, h1, h2, h3.congr he, fun j hj => by rw [← he j hj]; exact h4 j hj⟩
theorem Cat.congr {Xs : Nat → Int} {k i N : Nat} {F F' : Nat → Nat} (h : Cat Xs k i N F) (he : ∀ j, j < N → F' j = F j) : Cat Xs k i N F' := by
  induction h generalizing F' with
  | done F => exact Cat.done _
  | @step i m N F hi h1 h2 ih => exact Cat.step hi (h1.congr fun j hj => he j (by omega)) (ih fun j hj => he (m + j) (by omega))
def LoopB (w1 wr : World) (v : Value) (X : Nat → Int) (k bm : Nat) (f : Nat → Nat) (i N : Nat) (F : Nat → Nat) : Prop :=
  Byt wr v (N + bm) F ∧ Cat X k i N F ∧ (∀ j, j < bm → F (N + j) = f j) ∧ N ≤ 80000 ∧ Below w1.heap.size w1 wr
def LoopA (w1 wr : World) (v : Value) (X : Nat → Int) (nn : Nat → Nat) (i N : Nat) (F : Nat → Nat) : Prop :=
  Own .u8 5 wr w1.heap.size v N F ∧ Cat X i 0 N F ∧ (∀ j, j < N → F j < 256) ∧ N ≤ i * 20000 ∧ Below w1.heap.size w1 wr ∧ ∀ j, j < i → nn j ≤ 14

set_option maxRecDepth 100000 in
set_option maxHeartbeats 4000000 in
theorem wholeBytes_any (A : Option Addr) (k cap : Nat) (bb : Nat → Bool) (S : Nat → Option Addr) (nn cc : Nat → Nat) (X : Nat → Int) (B : Option Addr) (bm bd : Nat) (f : Nat → Nat) (w : World) (hk : k ≤ 4) (hm : bm ≤ 100)
    (hL : Ints w A k bb S nn cc X) (hb : Byt w (.slice B bm bd) bm f) (hB : B = none → bm = 0 ∧ bd = 0) :
    Calls Try.prog 12 #[.slice A k cap, .slice B bm bd] w fun e w' => e = .returned (.bool true) ∧ Below w.heap.size w w' := by
  have g1 : (k : Int) ≤ 4 := by omega
  have g2 : (bm : Int) ≤ 100 := by omega
  have HL := Lib.hid hL
  have BY := Lib.hid hb
  clear hL hb
  go_enter Try.func12, Try.ntmps12
  go_wp2_with fail
  refine Calls.mono (awake2 _) ?_
  rintro e w1 ⟨rfl, hb1⟩
  have HL1 := Lib.hid (HL.out.below hb1)
  have BY1 := Lib.hid (BY.out.below hb1)
  have HB1 := Lib.hid hb1
  have HLW := Lib.hid HL1.out
  clear HL BY hb1
  go_wp2
  go_loopw [5, 6] (fun v5 v6 wr => ∃ (i N : Nat) (F : Nat → Nat), v6 = .int .i64 (i : Nat) ∧ i ≤ k ∧ LoopA w1 wr v5 X nn i N F) (fun _ v6 _ => k - (intOf v6).toNat)
  case atStart => exact ⟨0, 0, fun _ => 0, rfl, Nat.zero_le _, Own.nil, Cat.done _, fun j hj => absurd hj (by omega), by omega, Below.refl _ _, fun j hj => absurd hj (by omega)⟩
  case round =>
    obtain ⟨i, N, F, rfl, hi, hinv⟩ := hrel
    have HI := Lib.hid hinv
    clear hinv
    by_cases hlt : i < k
    · have hd := (HL1.out.below HI.out.2.2.2.2.1) i hlt
      obtain ⟨ad, rfl, hbl, hc0, hc1, hlim⟩ := hd
      rw [show (ad.add (i * 2)).add 1 = ⟨(ad.add (i * 2)).block, (ad.add (i * 2)).off + 1, none⟩ from by unfold Addr.add; simp] at hc1
      have HLI := Lib.hid hlim
      obtain ⟨m, hmn⟩ : ∃ m, nn i = m := ⟨_, rfl⟩
      rw [hmn] at hc1 HLI hlim
      have HMN := Lib.hid hmn
      have hi0 : (0 : Int) ≤ (i : Int) := by omega
      have hik : (i : Int) < (k : Int) := by omega
      generalize bb i = b at *
      generalize S i = s at *
      generalize cc i = c at *
      clear hlim hmn
      go_wp2_with fail
      refine Calls.mono (few_any b s m c _ _ rfl) ?_
      rintro e w2 ⟨rfl, hb2⟩
      have hc0' := (hb2.cell (p := ad.add (i * 2)) (by rw [add_block]; exact hbl)).trans hc0
      have hc1' := (hb2.cell (p := ⟨(ad.add (i * 2)).block, (ad.add (i * 2)).off + 1, none⟩) (by show (ad.add (i * 2)).block < _; rw [add_block]; exact hbl)).trans hc1
      have HLI2 := Lib.hid (HLI.out.below hb2)
      have HO2 := Lib.hid (HI.out.1.below hb2)
      have HBL2 := Lib.hid (below_trans HI.out.2.2.2.2.1 hb2)
      have hbl2 : ad.block < w2.heap.size := Nat.lt_of_lt_of_le hbl hb2.size
      by_cases hf : m ≤ 14
      · have hfd : decide ((m : Int) ≤ 14) = true := decide_eq_true (by omega)
        rw [hfd]
        clear hb2
        go_wp2_with fail
        refine Calls.mono (li_bytes HLI2.out (by omega)) ?_
        rintro e w3 ⟨v3, p3, rfl, h3, hb3⟩
        obtain ⟨hp3, G, hby, henc⟩ := h3.enc
        obtain ⟨S3, c3, rfl, hby⟩ := hby.form
        have HBY3 := Lib.hid hby
        have HENC := Lib.hid henc
        have HO3 := Lib.hid (HO2.out.below hb3)
        have HBL3 := Lib.hid (below_trans HBL2.out hb3)
        have HNB := Lib.hid HI.out.2.2.2.1
        have hNb : N ≤ i * 20000 := HI.out.2.2.2.1
        have hS3 : S3 = none → 3 + 4 * p3 = 0 ∧ c3 = 0 := fun e => by
          subst e
          obtain ⟨ad', e2, _⟩ := HBY3.out.rd.some_ (by omega)
          cases e2
        have hz3 : w1.heap.size ≤ w3.heap.size := HBL3.out.size
        obtain ⟨q, hq⟩ : ∃ q, q = 3 + 4 * p3 := ⟨_, rfl⟩
        rw [← hq] at HBY3 HENC hS3
        rw [← hq]
        have hq2 : q ≤ 20000 := by omega
        clear hb3 hby henc h3 hq
        go_wp2_with (at_builtin; refine wpList_app rfl (.tmp 33) (.tmp 38) 30 rfl .u8 5 Try.underlying30 1 u8_info (by omega) w1.heap.size _ N F rfl HO3.out S3 q c3 G rfl HBY3.out.rd hS3 (by omega) (by omega) ?_; intro v4 w4 hown4 hb4 hs4)
        have HINV : Hid (LoopA w1 w4 v4 X nn (i + 1) (N + q) (appF F N G)) := ⟨hown4, HI.out.2.1.more HENC.out, fun j hj => by
            unfold appF
            by_cases h : j < N
            · rw [if_pos h]; exact HI.out.2.2.1 j h
            · rw [if_neg h]
              obtain ⟨_, _, _, _, _, hG⟩ := HBY3.out
              exact hG _ (by omega), by rw [Nat.add_mul]; omega, HBL3.out.trans hb4, fun j hj => by
            rcases Nat.lt_or_ge j i with h | h
            · exact HI.out.2.2.2.2.2 j h
            · obtain rfl : j = i := by omega
              rw [HMN.out]; exact hf⟩
        clear hown4 hb4 hs4
        go_wp2
        go_roundw
        case rel => exact ⟨i + 1, N + q, _, by go_num, by omega, HINV.out⟩
        case measure => simp [intOf]; omega
      · have hfd : decide ((m : Int) ≤ 14) = false := decide_eq_false (by omega)
        rw [hfd]
        clear hb2
        go_wp2
        go_ret
        exact ⟨rfl, below_trans HB1.out HBL2.out⟩
    · obtain rfl : i = k := by omega
      have HO := Lib.hid HI.out.1
      have HC := Lib.hid HI.out.2.1
      have HF := Lib.hid HI.out.2.2.1
      have hNb : N ≤ i * 20000 := HI.out.2.2.2.1
      have HBL := Lib.hid HI.out.2.2.2.2.1
      have HFEW := Lib.hid HI.out.2.2.2.2.2
      have HBR := Lib.hid (BY1.out.below HBL.out)
      have hz : w1.heap.size ≤ wr.heap.size := HBL.out.size
      have HLR := Lib.hid (HL1.out.below HBL.out)
      clear HI HL1
      go_wp2_with (at_builtin; refine wpList_app rfl (.tmp 40) (.tmp 41) 30 rfl .u8 5 Try.underlying30 1 u8_info (by omega) w1.heap.size _ N F rfl HO.out B bm bd f rfl HBR.out.rd hB (by omega) (by omega) ?_; intro v4 w4 hown4 hb4 hs4)
      have HINV : Hid (LoopB w1 w4 v4 X i bm f 0 N (appF F N f)) := ⟨own_byt hown4 (fun j hj => by
          unfold appF
          by_cases h : j < N
          · rw [if_pos h]; exact HF.out j h
          · rw [if_neg h]
            obtain ⟨_, _, _, _, _, hG⟩ := HBR.out
            exact hG _ (by omega)), HC.out.congr (fun j hj => by unfold appF; rw [if_pos hj]), (fun j hj => by unfold appF; rw [if_neg (by omega), Nat.add_sub_cancel_left]), by omega, HBL.out.trans hb4⟩
      have HL4 := Lib.hid (fun (wq : World) (h : Below w1.heap.size w1 wq) => HLW.out.below h)
      clear hown4 hb4 hs4 HO HC HF HBL HBR HLR
      go_wp2
      go_loopw [5, 7] (fun v5 v7 wr => ∃ (j N : Nat) (F : Nat → Nat), v7 = .int .i64 (j : Nat) ∧ j ≤ i ∧ LoopB w1 wr v5 X i bm f j N F) (fun _ v7 _ => i - (intOf v7).toNat)
      case atStart => exact ⟨0, N, _, rfl, Nat.zero_le _, HINV.out⟩
      case round =>
        clear HINV
        obtain ⟨j, M, E, rfl, hj, hinv⟩ := hrel
        have HI := Lib.hid hinv
        clear hinv
        by_cases hlt : j < i
        · have hd := (HL4.out _ HI.out.2.2.2.2) j hlt
          obtain ⟨ad, rfl, hbl, hc0, hc1, hlim⟩ := hd
          rw [show (ad.add (j * 2)).add 1 = ⟨(ad.add (j * 2)).block, (ad.add (j * 2)).off + 1, none⟩ from by unfold Addr.add; simp] at hc1
          have HLI := Lib.hid hlim
          obtain ⟨m, hmn⟩ : ∃ m, nn j = m := ⟨_, rfl⟩
          have hm14 : m ≤ 14 := by rw [← hmn]; exact HFEW.out j hlt
          rw [hmn] at hc1 HLI hlim
          have hi0 : (0 : Int) ≤ (j : Int) := by omega
          have hik : (j : Int) < (i : Int) := by omega
          obtain ⟨q, M', hMq, henc, hcat⟩ := HI.out.2.1.first hlt
          obtain ⟨e1, e2, e3, e4⟩ := henc.read (n := M + bm) (by omega) (fun _ _ => rfl)
          have hM8 : M ≤ 80000 := HI.out.2.2.2.1
          have RD := byt_readI HI.out.1 (by omega)
          rw [e1, e2, e3] at RD
          have HRD := Lib.hid RD
          have HX := Lib.hid hlim.lt
          have HNX : Hid (LoopB w1 wr u5 X i bm f j M E) := HI.out
          have HCAT := Lib.hid hcat
          have HE4 := Lib.hid e4
          generalize bb j = b at *
          generalize S j = s at *
          generalize cc j = c at *
          generalize hXj : X j = x at *
          clear hlim hmn henc e1 e2 e3 e4 RD hcat hXj
          go_wp2_with fail
          refine Calls.mono HRD.out ?_
          rintro e w2 ⟨va, vb, rfl, h2, hy2, hb2⟩
          obtain ⟨ba, Aa, na, ca, rfl, -, -, h2⟩ := h2.form
          have HBL2 := Lib.hid (below_trans HI.out.2.2.2.2 hb2)
          have HY2 := Lib.hid (hy2.congr (F' := fun t => E (q + t)) (fun t _ => HE4.out t))
          have hc0' := (hb2.cell (p := ad.add (j * 2)) (by rw [add_block]; exact hbl)).trans hc0
          have hc1' := (hb2.cell (p := ⟨(ad.add (j * 2)).block, (ad.add (j * 2)).off + 1, none⟩) (by show (ad.add (j * 2)).block < _; rw [add_block]; exact hbl)).trans hc1
          have HLI2 := Lib.hid (HLI.out.below hb2)
          have hbl2 : ad.block < w2.heap.size := Nat.lt_of_lt_of_le hbl hb2.size
          have H2 := Lib.hid h2
          clear hb2 hy2 h2 HRD HLI hc0 hc1
          go_wp2
          generalize hW : World.alloc _ _ = wg
          have kg : Blk wg w2.heap.size 41 #[.bool ba, .slice Aa na ca] := by
            rw [← hW]
            exact (by repeat (first | (with_reducible first | assumption | (refine Hid.out ?_; assumption) | apply Blk.drew_) | ((with_reducible refine Blk.new _ _ ?_ _ _) <;> (first | rfl | (simp; done))) | (with_reducible first | refine Blk.alloc_ ?_ _ | (apply Blk.below; rotate_left; assumption))))
          have hbg : Below w2.heap.size w2 wg := by rw [← hW]; exact below_new _ _
          have pg := kg.cell0
          have qg := kg.cell1
          have dg := kg.lt
          have KG := Lib.hid kg
          have hcg0 := (hbg.cell (p := ad.add (j * 2)) (by rw [add_block]; exact hbl2)).trans hc0'
          have hcg1 := (hbg.cell (p := ⟨(ad.add (j * 2)).block, (ad.add (j * 2)).off + 1, none⟩) (by show (ad.add (j * 2)).block < _; rw [add_block]; exact hbl2)).trans hc1'
          have hblg : ad.block < wg.heap.size := Nat.lt_of_lt_of_le hbl2 hbg.size
          have HLIg := Lib.hid (HLI2.out.below hbg)
          have H2g := Lib.hid (H2.out.below hbg)
          have HYg := Lib.hid (HY2.out.below hbg)
          have HBg := Lib.hid (below_trans HBL2.out hbg)
          clear hW kg hbg hc0' hc1' HLI2 H2 HY2 HBL2
          have tok5 : True := trivial
          have tok6 : True := trivial
          go_region_held3 (fun w' => w'.cell? ⟨w2.heap.size, 0, none⟩ = some (.bool ba) ∧ w'.cell? ⟨w2.heap.size, 1, none⟩ = some (.slice Aa na ca) ∧ w'.cell? (ad.add (j * 2)) = some (.bool b) ∧ w'.cell? ⟨(ad.add (j * 2)).block, (ad.add (j * 2)).off + 1, none⟩ = some (.slice s m c)) (refine ⟨?_, ?_, ?_, ?_⟩ <;> first | with_reducible assumption | ((with_reducible refine Eq.trans (cell_drew _ _) ?_); with_reducible assumption) | go_keep)
            (first
              | (go_at_call 38; have _t := tok5; clear _t tok5; ((with_reducible refine Calls.mono (li_rplain (k := m) (X := x) (LimI.drew_ HLIg.out) (by omega)) ?_)); rintro e w5 ⟨v5, rfl, h5, hb5⟩; have k5 := Blk.below (g := w2.heap.size) (t := 41) (cs := #[.bool ba, .slice Aa na ca]) (by repeat (first | (with_reducible first | assumption | (refine Hid.out ?_; assumption) | apply Blk.drew_) | ((with_reducible refine Blk.new _ _ ?_ _ _) <;> (first | rfl | (simp; done))) | (with_reducible first | refine Blk.alloc_ ?_ _ | (apply Blk.below; rotate_left; assumption)))) hb5; have p5 := k5.cell0; have q5 := k5.cell1; have d5 := k5.lt; have hd05 := (hb5.cell (p := ad.add (j * 2)) (by rw [add_block]; exact hblg)).trans hcg0; have hd15 := (hb5.cell (p := ⟨(ad.add (j * 2)).block, (ad.add (j * 2)).off + 1, none⟩) (by show (ad.add (j * 2)).block < _; rw [add_block]; exact hblg)).trans hcg1; have hbl5 : ad.block < w5.heap.size := Nat.lt_of_lt_of_le hblg hb5.size; have K5 := Lib.hid k5; have HY5 := Lib.hid ((Byt.drew_2 HYg.out).below hb5); have HB5 := Lib.hid (below_trans (Below.drew HBg.out) hb5); have H5 := Lib.hid h5; have H25 := Lib.hid ((IsInt.drew_ H2g.out).below hb5); clear h5; clear k5 hb5)
              | (go_at_call 36; have _t := tok6; clear _t tok6; ((with_reducible refine Calls.mono (isInt_same (k := m) (X := x) H25.out H5.out HX.out (by omega)) ?_)); rintro e w6 ⟨rfl, hb6⟩; have k6 := Blk.below (g := w2.heap.size) (t := 41) (cs := #[.bool ba, .slice Aa na ca]) (by repeat (first | (with_reducible first | assumption | (refine Hid.out ?_; assumption) | apply Blk.drew_) | ((with_reducible refine Blk.new _ _ ?_ _ _) <;> (first | rfl | (simp; done))) | (with_reducible first | refine Blk.alloc_ ?_ _ | (apply Blk.below; rotate_left; assumption)))) hb6; have p6 := k6.cell0; have q6 := k6.cell1; have d6 := k6.lt; have hd06 := (hb6.cell (p := ad.add (j * 2)) (by rw [add_block]; exact hbl5)).trans hd05; have hd16 := (hb6.cell (p := ⟨(ad.add (j * 2)).block, (ad.add (j * 2)).off + 1, none⟩) (by show (ad.add (j * 2)).block < _; rw [add_block]; exact hbl5)).trans hd15; have hbl6 : ad.block < w6.heap.size := Nat.lt_of_lt_of_le hbl5 hb6.size; have K6 := Lib.hid k6; have HY6 := Lib.hid (HY5.out.below hb6); have HB6 := Lib.hid (below_trans HB5.out hb6); clear k6 hb6))
          have HINV : Hid (LoopB w1 w6 vb X i bm f (j + 1) M' (fun t => E (q + t))) := ⟨by rw [show M' + bm = M + bm - q from by omega]; exact HY6.out, HCAT.out, (fun t ht => by
            show E (q + (M' + t)) = _
            rw [← Nat.add_assoc, ← hMq]
            exact HI.out.2.2.1 t ht), by omega, HB6.out⟩
          go_wp2
          go_roundw
          case rel => exact ⟨j + 1, M', _, by go_num, by omega, HINV.out⟩
          case measure => simp [intOf]; omega
        · obtain rfl : j = i := by omega
          obtain rfl : M = 0 := HI.out.2.1.last (by omega)
          have HB5 := Lib.hid HI.out.2.2.2.2
          have HR1 := Lib.hid (show Byt wr u5 bm E from by have := HI.out.1; rwa [Nat.zero_add] at this)
          have HR2 := Lib.hid (BY1.out.below HB5.out)
          have HEQ := Lib.hid HI.out.2.2.1
          clear HI HL4
          go_wp2_with fail
          refine Calls.mono (byt_rows HR1.out HR2.out (by omega) (fun t ht => by have := HEQ.out t ht; rwa [Nat.zero_add] at this)) ?_
          rintro e w5 ⟨rfl, hb5⟩
          have HBZ := Lib.hid (below_trans HB1.out (below_trans HB5.out hb5))
          clear hb5
          go_wp2
          go_ret
          exact ⟨rfl, HBZ.out⟩
end Go.Proofs.Ythndfmpnfgbioaa
