/- Contracts of lin: rows of pairs, leading, behindFirst. -/
import Derived.Test.YtebdmidghidaeaaGreatPYj
namespace Go.Proofs.YtebdmidghidaeaaGreat
open Go.RowKit
attribute [local go_sem ↓] Go.wp_at_zero Go.wp_at_succ
set_option linter.unusedVariables false

/-- What the loop over pairs of rows and numbers carries. -/
def PrT (w wr : World) (g0 m k : Nat) (Ln : Nat → Nat) (F : Nat → Nat → Rat) (g : Nat → Rat) (i : Nat) (rr : Nat → Value) : Prop :=
  OwnT wr w.heap.size (.slice (some ⟨g0, 0, none⟩) m m) m rr ∧ (∀ j, j < i → RowT false k wr (rr j) (Ln j + 1) (appR (F j) (Ln j) (fun _ => g j))) ∧ Below w.heap.size w wr

set_option maxRecDepth 100000 in
set_option maxHeartbeats 4000000 in
theorem pairsR {p p' : Bool} {k m : Nat} {Ln : Nat → Nat} {w : World} {va vb : Value} {F : Nat → Nat → Rat} {g : Nat → Rat} (ha : TabQ p k w va m Ln F) (hb : RowQ p' k w vb m g) (hL : ∀ i, i < m → Ln i ≤ 1000) :
    Calls Tryz.prog 46 #[va, vb, .func (.func 47) #[] #[]] w fun e w' => ∃ v rr, e = .returned (.tuple #[v, .bool true]) ∧ OwnT w' w.heap.size v m rr ∧ (∀ i, i < m → RowT false k w' (rr i) (Ln i + 1) (appR (F i) (Ln i) (fun _ => g i))) ∧ Below w.heap.size w w' := by
  obtain ⟨A, ca, rfl, hca, hm⟩ := ha.len
  obtain ⟨B, cb, rfl, hcb, _⟩ := hb.len
  have HA := Lib.hid ha
  have HB := Lib.hid hb
  have HM := Lib.hid hm
  have HL := Lib.hid hL
  clear ha hb hca hcb hm hL
  go_enter Tryz.func46, Tryz.ntmps46
  go_wp2_with (at_make; refine wpList_make_rows rfl rfl _ _ rfl w.heap.size _ _ _ _ m rfl rfl rfl rfl HM.out (Nat.le_refl _) ?_; intro w1 hown hbw hsw)
  have HI0 : Hid (PrT w w1 w.heap.size m k Ln F g 0 (fun _ => .slice none 0 0)) := ⟨hown, fun j hj => absurd hj (by omega), hbw⟩
  clear hown hbw hsw
  go_wp2
  go_loopw [21] (fun v21 wr => ∃ (i : Nat) (rr : Nat → Value), v21 = .int .i64 (i : Nat) ∧ i ≤ m ∧ PrT w wr w.heap.size m k Ln F g i rr) (fun v21 _ => m - (intOf v21).toNat)
  case atStart => exact ⟨0, _, rfl, Nat.zero_le _, HI0.out⟩
  case round =>
    obtain ⟨i, rr, rfl, hi, hinv⟩ := hrel
    have HI := Lib.hid hinv
    clear hinv HI0
    by_cases hlt : i < m
    · have hi0 : (0 : Int) ≤ (i : Int) := by omega
      have hik : (i : Int) < (m : Int) := by omega
      obtain ⟨td, ct, R, cR, e1, _, htb, hcell, hn1, _, hR⟩ := (HA.out.below HI.out.2.2).at_ hlt
      simp only [Value.slice.injEq] at e1
      obtain ⟨rfl, _, rfl⟩ := e1
      obtain ⟨bd, c3, ⟨b8, A8, n8, c8, d8, B8, m8, k8⟩, e1, _, _, ⟨x0, x1, x2, x3, x4⟩, hE⟩ := (HB.out.below HI.out.2.2).at_ hlt
      simp only [Value.slice.injEq] at e1
      obtain ⟨rfl, _, rfl⟩ := e1
      have HR := Lib.hid hR
      have HE := Lib.hid hE.2
      clear hR hE
      go_wp2_with fail
      refine Calls.mono (lsolve1 HR.out HE.out (HL.out i hlt)) ?_
      rintro e w2 ⟨v, rfl, hv, hb⟩
      have HO := Lib.hid (HI.out.1.below hb)
      have HX := Lib.hid (fun j (hj : j < i) => (HI.out.2.1 j hj).below hb)
      have HB2 := Lib.hid (below_trans HI.out.2.2 hb)
      have HV := Lib.hid hv
      obtain ⟨VA, VC, rfl, _, _⟩ := hv.rowQ.len
      have hg1 : w.heap.size < w2.heap.size := HO.out.lt
      have s0 := HO.out.at_ hlt
      have s1 := OwnN.frozenAt HO.out i
      clear hb hv HI x0 x1 x2 x3 x4 hcell
      go_wp2
      obtain ⟨W, hW⟩ : ∃ W, W = w2.setCell ⟨w.heap.size, i, none⟩ (.slice VA (Ln i + 1) VC) := ⟨_, rfl⟩
      rw [← hW]
      obtain ⟨g1, g2, g3⟩ := OwnT.set1 HO.out hlt nu hW
      have HINV : Hid (PrT w W w.heap.size m k Ln F g (i + 1) (updR rr i (.slice VA (Ln i + 1) VC))) := ⟨g1, fun j hj => by
        by_cases hji : j = i
        · rw [hji, updR_at]; exact HV.out.fz g2
        · rw [updR_ne _ _ hji]; exact (HX.out j (by omega)).fz g2, HB2.out.trans g2.below⟩
      clear hW g1 g2 g3 HO HX HB2 HV s0 s1
      go_roundw
      case rel => exact ⟨i + 1, _, by go_num, by omega, HINV.out⟩
      case measure => simp [intOf]; omega
    · obtain rfl : i = m := by omega
      go_wp2
      go_ret2
      exact ⟨_, _, rfl, HI.out.1, HI.out.2.1, HI.out.2.2⟩

set_option maxRecDepth 100000 in
set_option maxHeartbeats 4000000 in
theorem lleading {p : Bool} {k m n i0 : Nat} {w : World} {vt : Value} {F : Nat → Nat → Rat} (hT : TabQ p k w vt m (fun _ => n) F) (hn : 1 ≤ n) (hi0 : i0 ≤ m) (hk : k ≤ 100000) :
    Calls Tryz.prog 49 #[vt, .int .i64 (i0 : Nat)] w fun e w' => ((∃ r : Nat, e = .returned (.tuple #[.int .i64 (r : Nat), .bool true]) ∧ i0 ≤ r ∧ r < m ∧ F r 0 ≠ 0) ∨ (e = .returned (.tuple #[.int .i64 0, .bool false]) ∧ ∀ j, i0 ≤ j → j < m → F j 0 = 0)) ∧ Below w.heap.size w w' := by
  obtain ⟨A, ct, rfl, _, hm⟩ := hT.len
  have HT := Lib.hid hT
  clear hT
  go_enter Tryz.func49, Tryz.ntmps49
  go_wp2
  go_loopw [6] (fun v6 wr => ∃ (i : Nat), v6 = .int .i64 (i : Nat) ∧ i0 ≤ i ∧ i ≤ m ∧ (∀ j, i0 ≤ j → j < i → F j 0 = 0) ∧ Below w.heap.size w wr) (fun v6 _ => m - (intOf v6).toNat)
  case atStart => exact ⟨i0, rfl, Nat.le_refl _, hi0, fun j h1 h2 => absurd h1 (by omega), Below.refl _ _⟩
  case round =>
    obtain ⟨i, rfl, hi1, hi, hz, hb⟩ := hrel
    have HZ := Lib.hid hz
    have HB := Lib.hid hb
    clear hz hb
    by_cases hlt : i < m
    · have hi0' : (0 : Int) ≤ (i : Int) := by omega
      have hik : (i : Int) < (m : Int) := by omega
      obtain ⟨td, ct', R, cR, e1, _, htb, hcell, hn1, _, hR⟩ := (HT.out.below HB.out).at_ hlt
      simp only [Value.slice.injEq] at e1
      obtain ⟨rfl, _, rfl⟩ := e1
      obtain ⟨rd, c3, ⟨b8, A8, n8, c8, d8, B8, m8, k8⟩, e1, _, _, ⟨x0, x1, x2, x3, x4⟩, hE⟩ := hR.at_ (i := 0) (by omega)
      simp only [Value.slice.injEq] at e1
      obtain ⟨rfl, _, rfl⟩ := e1
      rw [Nat.zero_mul] at x1 x2 x3 x4
      have hz0 : rd.add 0 = rd := rfl
      rw [hz0] at x1 x2 x3 x4
      have HE := Lib.hid hE.2
      have hn2 : (0 : Int) < (n : Int) := by omega
      clear hR hE
      by_cases hF : F i 0 = 0
      · have HD := Lib.hid (decide_eq_true hF)
        go_wp2_with fail
        refine Calls.mono (lisz_is HD.out HE.out (by omega)) ?_
        rintro e w2 ⟨rfl, hb⟩
        have HB2 := Lib.hid (below_trans HB.out hb)
        clear hb HB
        go_wp2
        go_roundw
        case rel => exact ⟨i + 1, by go_num, by omega, by omega, fun j h1 h2 => by
          by_cases hji : j = i
          · rw [hji]; exact hF
          · exact HZ.out j h1 (by omega), HB2.out⟩
        case measure => simp [intOf]; omega
      · have HD := Lib.hid (decide_eq_false hF)
        go_wp2_with fail
        refine Calls.mono (lisz_is HD.out HE.out (by omega)) ?_
        rintro e w2 ⟨rfl, hb⟩
        have HB2 := Lib.hid (below_trans HB.out hb)
        clear hb HB
        go_wp2
        go_ret2
        exact ⟨.inl ⟨i, rfl, hi1, hlt, hF⟩, HB2.out⟩
    · obtain rfl : i = m := by omega
      go_wp2
      go_ret2
      exact ⟨.inr ⟨rfl, HZ.out⟩, HB.out⟩

/-- A row without its first. -/
theorem RowT.tail {p : Bool} {k n c : Nat} {w : World} {ad : Addr} {f : Nat → Rat} (h : RowT p k w (.slice (some ad) (n + 1) c) (n + 1) f) : RowT p k w (.slice (if c = 1 then some ad else some ⟨ad.block, ad.off + 4, none⟩) n (c - 1)) n (fun j => f (j + 1)) := by
  obtain ⟨A, c', X, e, h1, h2, h3, h4, h5⟩ := h
  injection e with e _ e'
  subst e
  subst e'
  have e4 : (⟨ad.block, ad.off + 4, none⟩ : Addr) = ad.add 4 := by
    unfold Addr.add
    rw [if_neg (by omega)]
  by_cases hc : c = 1
  · rw [if_pos hc]
    have := h1.1
    exact ⟨_, _, fun j => X (j + 1), rfl, ⟨by omega, fun e => by cases e⟩, by omega, fun i hi => absurd hi (by omega), fun i hi => absurd hi (by omega), h5⟩
  · rw [if_neg hc, e4]
    refine ⟨_, _, fun j => X (j + 1), rfl, ⟨by have := h1.1; omega, fun e => by cases e⟩, by omega, fun i hi => ?_, fun i hi => h4 (i + 1) (by omega), fun a e => ?_⟩
    · obtain ⟨ad', e, h⟩ := h3 (i + 1) (by omega)
      injection e with e
      subst e
      refine ⟨_, rfl, ?_⟩
      rw [add_add, show 4 + i * 4 = (i + 1) * 4 from by omega]
      exact h
    · injection e with e
      subst e
      rw [add_block]
      exact h5 _ rfl

set_option maxRecDepth 100000 in
set_option maxHeartbeats 4000000 in
theorem lbehind {p : Bool} {k m n base : Nat} {w : World} {vt : Value} {rr : Nat → Value} {F : Nat → Nat → Rat} (hO : OwnT w base vt m rr) (hR : ∀ i, i < m → RowT p k w (rr i) (n + 1) (F i)) (hm : m ≤ 1000000) :
    Calls Tryz.prog 50 #[vt] w fun e w' => ∃ rr', e = .returned vt ∧ OwnT w' base vt m rr' ∧ (∀ i, i < m → RowT p k w' (rr' i) n (fun j => F i (j + 1))) ∧ Fz base 22 w w' := by
  obtain ⟨A, ct, rfl, hct⟩ : ∃ A c, vt = .slice A m c ∧ m ≤ c := by
    rcases hO.2 with ⟨rfl, rfl⟩ | ⟨g, cap, cur, rfl, _, _, h, _⟩
    · exact ⟨none, 0, rfl, Nat.le_refl _⟩
    · exact ⟨_, _, rfl, h⟩
  have HO0 := Lib.hid hO
  have HR0 := Lib.hid hR
  clear hO hR
  go_enter Tryz.func50, Tryz.ntmps50
  go_wp2
  go_loopw [7] (fun v7 wr => ∃ (i : Nat) (rq : Nat → Value), v7 = .int .i64 (i : Nat) ∧ i ≤ m ∧ OwnT wr base (.slice A m ct) m rq ∧ (∀ j, j < m → i ≤ j → RowT p k wr (rq j) (n + 1) (F j)) ∧ (∀ j, j < i → RowT p k wr (rq j) n (fun l => F j (l + 1))) ∧ Fz base 22 w wr) (fun v7 _ => m - (intOf v7).toNat)
  case atStart => exact ⟨0, rr, rfl, Nat.zero_le _, HO0.out, fun j hj _ => HR0.out j hj, fun j hj => absurd hj (by omega), Fz.refl⟩
  case round =>
    obtain ⟨i, rq, rfl, hi, g1, g2, g3, g4⟩ := hrel
    have HO := Lib.hid g1
    have HR := Lib.hid g2
    have HD := Lib.hid g3
    have HF := Lib.hid g4
    clear g1 g2 g3 g4 HO0 HR0
    by_cases hlt : i < m
    · have hi0' : (0 : Int) ≤ (i : Int) := by omega
      have hik : (i : Int) < (m : Int) := by omega
      obtain ⟨g, c', e1, hbg, _⟩ := OwnN.form HO.out (by omega)
      simp only [Value.slice.injEq] at e1
      obtain ⟨rfl, _, rfl⟩ := e1
      have s0 := HO.out.at_ hlt
      have s1 := OwnN.frozenAt HO.out i
      have hrow := HR.out i hlt (Nat.le_refl _)
      obtain ⟨ad, c3, x, e1, _, hc3, _, _⟩ := hrow.rowQ.at_ (i := 0) (by omega)
      rw [e1] at s0 hrow
      have HRW := Lib.hid hrow.tail
      clear hrow e1
      go_wp2
      obtain ⟨W, hW⟩ : ∃ W, W = wr.setCell ⟨g, i, none⟩ (.slice (if c3 = 1 then some ad else some ⟨ad.block, ad.off + 4, none⟩) n (c3 - 1)) := ⟨_, rfl⟩
      rw [← hW]
      obtain ⟨g1, g2, g3⟩ := OwnT.set1 HO.out hlt nu hW
      have HINV : Hid (OwnT W base (.slice (some ⟨g, 0, none⟩) m ct) m (updR rq i (.slice (if c3 = 1 then some ad else some ⟨ad.block, ad.off + 4, none⟩) n (c3 - 1))) ∧ (∀ j, j < m → i + 1 ≤ j → RowT p k W (updR rq i (.slice (if c3 = 1 then some ad else some ⟨ad.block, ad.off + 4, none⟩) n (c3 - 1)) j) (n + 1) (F j)) ∧ (∀ j, j < i + 1 → RowT p k W (updR rq i (.slice (if c3 = 1 then some ad else some ⟨ad.block, ad.off + 4, none⟩) n (c3 - 1)) j) n (fun l => F j (l + 1))) ∧ Fz base 22 w W) := ⟨g1, fun j hj hij => by
        rw [updR_ne _ _ (by omega)]; exact (HR.out j hj (by omega)).fz g2, fun j hj => by
        by_cases hji : j = i
        · rw [hji, updR_at]; exact HRW.out.fz g2
        · rw [updR_ne _ _ hji]; exact (HD.out j (by omega)).fz g2, HF.out.trans g2⟩
      clear hW g1 g2 g3 HO HR HD HF HRW s0 s1
      go_roundw
      case rel => exact ⟨i + 1, _, by go_num, by omega, HINV.out⟩
      case measure => simp [intOf]; omega
    · obtain rfl : i = m := by omega
      go_wp2
      go_ret
      exact ⟨_, rfl, HO.out, HD.out, HF.out⟩
end Go.Proofs.YtebdmidghidaeaaGreat

/- Contracts of lin: slices.Grow of nothing, slices.Concat of rows of one. -/
namespace Go.Proofs.YtebdmidghidaeaaGreat
open Go.RowKit
attribute [local go_sem ↓] Go.wp_at_zero Go.wp_at_succ
set_option linter.unusedVariables false

set_option maxRecDepth 100000 in
set_option maxHeartbeats 1000000 in
theorem lgrow_no {w : World} :
    Calls Tryz.prog 76 #[.slice none 0 0, .int .i64 0] w fun e w' => e = .returned (.slice none 0 0) ∧ w' = w := by
  go_enter Tryz.func76, Tryz.ntmps76
  go_wp2
  go_ret
  exact ⟨rfl, by first | rfl | trivial⟩

set_option maxRecDepth 100000 in
set_option maxHeartbeats 2000000 in
theorem lgrow_yes {w : World} {n : Nat} (hn : n ≤ 1000000) (h0 : 0 < n) :
    Calls Tryz.prog 76 #[.slice none 0 0, .int .i64 (n : Nat)] w fun e w' => ∃ v, e = .returned v ∧ (∀ X, OwnR w' w.heap.size v 0 X) ∧ Below w.heap.size w w' := by
  obtain ⟨i, hi, hz, hs, hby⟩ := info_parts rat_info
  have h1 : ¬ (n : Int) < 0 := by omega
  have h2 : (0 : Int) < (n : Int) := by omega
  have hw : IntKind.i64.wrap (n : Int) = n := by rw [IntKind.wrap_i64]; omega
  go_enter Tryz.func76, Tryz.ntmps76
  go_wp2_with (at_builtin; refine Go.Lib.wpList_append_run _ rfl (.tmp 20) (.tmp 21) _ _ rfl _ _ rfl rfl _ _ (Go.Lib.run_append_nil_zeros (P := Tryz.prog) w 22 3 _ 27 i ratZ.val .i64 .i64 Tryz.underlying22 Tryz.underlying3 hi hz n h0 (by omega) (by omega) (by rw [hby]; omega)) ?_)
  have hge := grownCap_ge w n 0 27
  have hle := grownCap_le_maxLen w n 0 27 (by simp only [maxLen]; omega)
  have hnu : ∀ u ∈ (#[Value.bool ratZ.b, .slice ratZ.A ratZ.n ratZ.c, .bool ratZ.b', .slice ratZ.A' ratZ.n' ratZ.c'] : Array Value).toList, Nu u := ratL_nu ratZ
  have hszz : (#[Value.bool ratZ.b, .slice ratZ.A ratZ.n ratZ.c, .bool ratZ.b', .slice ratZ.A' ratZ.n' ratZ.c'] : Array Value).size = 4 := rfl
  generalize (#[Value.bool ratZ.b, .slice ratZ.A ratZ.n ratZ.c, .bool ratZ.b', .slice ratZ.A' ratZ.n' ratZ.c'] : Array Value) = zz at *
  have HO := Lib.hid (show ∀ X, OwnR (w.alloc (.cells (Builtin.zeroCells zz n ++ Builtin.zeroCells zz (grownCap w n 0 27 - n)) 27)).drew w.heap.size (.slice (some ⟨w.heap.size, 0, none⟩) 0 (grownCap w n 0 27)) 0 X from fun X => ⟨rfl, .inr ⟨w.heap.size, _, _, rfl, Nat.le_refl _, heap_alloc_new w _, by omega, hle, by rw [Array.size_append, size_zeroCells, size_zeroCells, hszz]; omega, by simp [rowR], fun u hu => by
    rw [Array.toList_append, List.mem_append] at hu
    rcases hu with hu | hu <;> exact mem_zeroCells hu hnu⟩⟩)
  have HB := Lib.hid (below_new w (.cells (Builtin.zeroCells zz n ++ Builtin.zeroCells zz (grownCap w n 0 27 - n)) 27)).drew
  clear hge hle hnu hszz
  go_ret
  exact ⟨_, rfl, HO.out, HB.out⟩

/-- slices.Grow of a nil row. -/
theorem lgrow (w : World) (n : Nat) (hn : n ≤ 1000000) : Calls Tryz.prog 76 #[.slice none 0 0, .int .i64 (n : Nat)] w fun e w' => ∃ v, e = .returned v ∧ (∀ X, OwnR w' w.heap.size v 0 X) ∧ Below w.heap.size w w' := by
  by_cases h : n = 0
  · subst h
    refine lgrow_no.mono ?_
    rintro e w' ⟨rfl, rfl⟩
    exact ⟨_, rfl, fun X => OwnR.nil, Below.refl _ _⟩
  · exact lgrow_yes hn (by omega)

set_option maxRecDepth 100000 in
set_option maxHeartbeats 4000000 in
theorem lconcat {p : Bool} {k m : Nat} {w : World} {vt : Value} {F : Nat → Nat → Rat} (hT : TabQ p k w vt m (fun _ => 1) F) :
    Calls Tryz.prog 51 #[vt] w fun e w' => ∃ v, e = .returned v ∧ RowT p k w' v m (fun i => F i 0) ∧ Below w.heap.size w w' := by
  obtain ⟨A, ct, rfl, _, hm⟩ := hT.len
  have HT := Lib.hid hT
  have HM := Lib.hid hm
  clear hT
  go_enter Tryz.func51, Tryz.ntmps51
  go_wp2
  go_loopw [3, 11] (fun v3 v11 wr => ∃ (i : Nat), v3 = .int .i64 (i : Nat) ∧ v11 = .int .i64 (i : Nat) ∧ i ≤ m ∧ w = wr) (fun _ v11 _ => m - (intOf v11).toNat)
  case atStart => exact ⟨0, rfl, rfl, Nat.zero_le _, rfl⟩
  case round =>
    obtain ⟨i, rfl, rfl, hi, rfl⟩ := hrel
    by_cases hlt : i < m
    · have hi0' : (0 : Int) ≤ (i : Int) := by omega
      have hik : (i : Int) < (m : Int) := by omega
      obtain ⟨td, ct', R, cR, e1, _, htb, hcell, _, _, _⟩ := HT.out.at_ hlt
      simp only [Value.slice.injEq] at e1
      obtain ⟨rfl, _, rfl⟩ := e1
      have hneg : ¬ (i : Int) + 1 < 0 := by omega
      go_wp2
      go_roundw
      case rel => exact ⟨i + 1, by go_num, by go_num, by omega, by first | rfl | trivial⟩
      case measure => simp [intOf]; omega
    · obtain rfl : i = m := by omega
      go_wp2_with fail
      refine Calls.mono (lgrow _ i HM.out) ?_
      rintro e w1 ⟨v, rfl, ho, hb⟩
      have HO := Lib.hid ho
      have HB := Lib.hid hb
      clear ho hb
      go_wp2
      go_loopw [6, 27] (fun v6 v27 wr => ∃ (j : Nat) (X : Nat → RatD), v27 = .int .i64 (j : Nat) ∧ j ≤ i ∧ OwnR wr w.heap.size v6 j X ∧ (∀ l, l < j → EQ p k wr (X l).val (F l 0)) ∧ Below w.heap.size w wr) (fun _ v27 _ => i - (intOf v27).toNat)
      case atStart => exact ⟨0, fun _ => ratZ, rfl, Nat.zero_le _, HO.out _, fun l hl => absurd hl (by omega), HB.out⟩
      case round =>
        obtain ⟨j, X, rfl, hj, g1, g2, g3⟩ := hrel
        have HO' := Lib.hid g1
        have HX := Lib.hid g2
        have HB' := Lib.hid g3
        clear g1 g2 g3 HO HB
        by_cases hlt : j < i
        · have hj0 : (0 : Int) ≤ (j : Int) := by omega
          have hjk : (j : Int) < (i : Int) := by omega
          obtain ⟨td, ct', R, cR, e1, _, htb, hcell, _, _, hR⟩ := (HT.out.below HB'.out).at_ hlt
          simp only [Value.slice.injEq] at e1
          obtain ⟨rfl, _, rfl⟩ := e1
          obtain ⟨A2, c2, Y, e1, _, _, hA2, hY, hE⟩ := hR.open_
          simp only [Value.slice.injEq] at e1
          obtain ⟨rfl, _, rfl⟩ := e1
          have HY := Lib.hid hY
          have HE := Lib.hid (hE 0 (by omega))
          have HA2 := Lib.hid hA2
          clear hR hY hE hA2
          go_wp2_with (at_builtin; refine wpList_append_rats rfl rfl (.tmp 31) (.tmp 32) rfl (base := w.heap.size) (n := j) (m := 1) (c := cR) (X := X) (Y := Y) rfl HO'.out rfl HY.out HA2.out (by have := HM.out; omega) HB'.out.size ?_; intro v3 w3 hown hfz)
          have HINV : Hid (OwnR w3 w.heap.size v3 (j + 1) (appR X j Y) ∧ (∀ l, l < j + 1 → EQ p k w3 (appR X j Y l).val (F l 0)) ∧ Below w.heap.size w w3) := ⟨hown, fun l hl => by
            by_cases h : l < j
            · rw [appR_lt _ _ _ h]; exact (HX.out l h).kp hfz.keep
            · obtain rfl : l = j := by omega
              have := appR_ge X l Y 0
              rw [Nat.add_zero] at this
              rw [this]
              exact HE.out.kp hfz.keep, HB'.out.trans hfz.below⟩
          clear hown hfz HO' HX HB' HY HE HA2
          go_wp2
          go_roundw
          case rel => exact ⟨j + 1, _, by go_num, by omega, HINV.out⟩
          case measure => simp [intOf]; omega
        · obtain rfl : j = i := by omega
          go_wp2
          go_ret
          exact ⟨_, rfl, OwnR.rowT HO'.out HM.out HX.out, HB'.out⟩
end Go.Proofs.YtebdmidghidaeaaGreat
