/- LedgerMost: the walk. -/
import Derived.Test.YtmcbmbcfgefocaaPHa
namespace Go.Proofs.Ytmcbmbcfgefocaa
open Go.RowKit Go.Shelf
set_option linter.unusedSimpArgs false
set_option linter.unusedVariables false

set_option maxRecDepth 100000 in
set_option maxHeartbeats 4000000 in
theorem ledger_most (w : World) (n : Nat) (hn : n < 256) : Calls Try.prog 4 #[.int .u8 (n : Nat)] w fun e w' => e = .returned (.bool true) ∧ Below w.heap.size w w' := by
  have HAW := Lib.hid (awake9 w)
  obtain ⟨k, hk⟩ : ∃ k, 190 + n % 20 = k := ⟨_, rfl⟩
  have hkI : (190 : Int) + (n : Int) % 20 = (k : Int) := by omega
  have hk1 : 190 ≤ k ∧ k ≤ 209 := by omega
  obtain ⟨L, hL⟩ : ∃ L, min k 200 = L := ⟨_, rfl⟩
  have hL1 : 190 ≤ L ∧ L ≤ 200 := by omega
  have HLL := Lib.hid hL
  have HL1 := Lib.hid hL1
  have HK1 := Lib.hid hk1
  have HKI := Lib.hid hkI
  have HNEW : Hid (∀ u, Below w.heap.size w u → Calls Try.prog 8 #[.int .i64 512] u fun e w' => ∃ gd, e = .returned (.tuple #[.pointer (some ⟨gd, 0, none⟩), .int .i64 0]) ∧ HeldD u w' gd (DS.new 512) (fun _ => False)) := Lib.hid fun u hu => (held_disk (N := 512) (by omega) (by omega)).mono fun e w' h => by
    obtain ⟨gd, rfl, h1⟩ := h
    exact ⟨gd, rfl, h1⟩
  have HOP : Hid (∀ w1 u gd, HeldD w1 u gd (DS.new 512) (fun _ => False) → Calls Try.prog 9 #[.pointer (some ⟨gd, 0, none⟩)] u fun e w' => ∃ gl, e = .returned (.tuple #[.pointer (some ⟨gl, 0, none⟩), .int .i64 0]) ∧ Mo w1 w' gl gd 0) := Lib.hid fun w1 u gd h => by
    refine ((dg_new (by omega) (by omega) h).open_ (by omega) (by omega)).mono ?_
    rintro e w' ⟨gl, rs2, rfl, hs, hl, _⟩
    obtain rfl := same_nil hs
    exact ⟨gl, rfl, [], rfl, fun r hr => by simp at hr, hl⟩
  have hn2 : (n : Int) < 256 := by omega
  clear hn hk hkI hL hL1 hk1
  go_enter Try.func4, Try.ntmps4
  go_upto_region 10 with (first
    | (go_at_call 7; refine HAW.out.mono ?_; rintro e w1 ⟨rfl, hb1⟩; have HB1 := Lib.hid hb1; clear hb1)
    | (go_at_call 8; refine (HNEW.out _ HB1.out).mono ?_; rintro e w2 ⟨gd, rfl, h2⟩; have H2 := Lib.hid h2; clear h2)
    | (go_at_call 9; refine (HOP.out _ _ _ H2.out).mono ?_; rintro e w3 ⟨gl, rfl, h3⟩; have H3 := Lib.hid h3; clear h3))
  rw [HKI.out]
  clear hn2
  go_wp2
  go_loopw [8] (fun x8 wr => ∃ i : Nat, 1 ≤ i ∧ i ≤ k + 1 ∧ x8 = .int .i64 (i : Nat) ∧ Mo w1 wr gl gd (i - 1)) (fun x8 _ => k + 1 - (intOf x8).toNat)
  case atStart => exact ⟨1, by omega, by omega, rfl, H3.out⟩
  case round =>
    obtain ⟨i, hi1, hi2, rfl, hmo⟩ := hrel
    have HMO := Lib.hid hmo
    have HII := Lib.hid (And.intro hi1 hi2)
    clear hmo
    by_cases hik : i ≤ k
    · have j1 : (i : Int) ≤ (k : Int) := by omega
      have hw8 : IntKind.u8.wrap (i : Int) = (i : Int) := by rw [IntKind.wrap_u8]; have := HK1.out; omega
      have hm8 : (i : Int) % 256 = (i : Int) := by have := HK1.out; omega
      have HA := Lib.hid (HMO.out.append hi1 (by have := HK1.out; omega))
      have HIK := Lib.hid hik
      by_cases h200 : i ≤ 200
      · have j2 : (i : Int) ≤ 200 := by omega
        have H20 := Lib.hid h200
        clear hik h200 hi1 hi2
        go_wp2_with (go_at_call 19; refine HA.out.mono ?_; rintro e w4 ⟨he, h4⟩; obtain rfl := he.1 H20.out; have H4 := Lib.hid h4; clear h4 he)
        exact ⟨⟨i + 1, by omega, by have := HIK.out; omega, by rw [Int.natCast_add]; rfl, by rw [Nat.add_sub_cancel]; exact H4.out⟩, by simp [intOf]; have := HIK.out; omega⟩
      · have j2 : ¬ (i : Int) ≤ 200 := by omega
        have H20 := Lib.hid (show 200 < i from by omega)
        clear hik h200 hi1 hi2
        go_wp2_with (go_at_call 19; refine HA.out.mono ?_; rintro e w4 ⟨he, h4⟩; obtain rfl := he.2 H20.out; have H4 := Lib.hid h4; clear h4 he)
        exact ⟨⟨i + 1, by omega, by have := HIK.out; omega, by rw [Int.natCast_add]; rfl, by rw [Nat.add_sub_cancel]; exact H4.out⟩, by simp [intOf]; have := HIK.out; omega⟩
    · obtain rfl : i = k + 1 := by omega
      have j1 : ¬ (((k + 1 : Nat) : Int) ≤ (k : Int)) := by omega
      have HM2 : Hid (Mo w1 wr gl gd k) := HMO
      have hLk : 190 ≤ L ∧ L ≤ 200 := HL1.out
      have hmn : (((L : Nat) : Int) != min (k : Int) 200) = false := by
        have := HLL.out
        rw [bne_eq_false_iff_eq]
        omega
      have HRC := Lib.hid (HM2.out.records HLL.out)
      have HC1 : Hid (∀ u A c, Al w1 u gl gd L A c L 0 → Calls Try.prog 12 #[.pointer (some ⟨gl, 0, none⟩), .slice A L c] u fun e w' => e = .returned (.int .i64 0) ∧ Al w1 w' gl gd L A c (L + L) 1) := Lib.hid fun u A c h => h.compact hLk.2 (by omega) (by omega)
      have HC2 : Hid (∀ u A c A1 c1, Cp w1 u gl gd L A c A1 c1 (L + L) 1 → Calls Try.prog 12 #[.pointer (some ⟨gl, 0, none⟩), .slice A1 L c1] u fun e w' => e = .returned (.int .i64 0) ∧ Al w1 w' gl gd L A c (L + L + L) 2) := Lib.hid fun u A c A1 c1 h => h.compact hLk.2 (by omega) (by omega)
      have HC3 : Hid (∀ u A c, Al w1 u gl gd L A c (L + L + L) 2 → Calls Try.prog 12 #[.pointer (some ⟨gl, 0, none⟩), .slice A 1 c] u fun e w' => e = .returned (.int .i64 0) ∧ ∃ rs' : List Rec, rs'.length = 1 ∧ Lg w1 w' gl gd 512 (L + L + L + 1) 3 1 rs' (fun _ => False)) := Lib.hid fun u A c h => h.less hLk.2 (by omega) (by omega) (by omega)
      have HA4 : Hid (∀ u, (∃ rs' : List Rec, rs'.length = 1 ∧ Lg w1 u gl gd 512 (L + L + L + 1) 3 1 rs' (fun _ => False)) → Calls Try.prog 19 #[.pointer (some ⟨gl, 0, none⟩), .slice (some ⟨u.heap.size, 0, none⟩) 1 1] (u.alloc (.cells #[.int .u8 1] 5)) fun e w' => e = .returned (.int .i64 0) ∧ ∃ rs' : List Rec, rs'.length = 2 ∧ Lg w1 w' gl gd 512 (L + L + L + 1 + 1) 3 2 rs' (fun _ => False)) := Lib.hid fun u h => by
        obtain ⟨rs', a1, a2⟩ := h
        have hb := below_new u (.cells #[.int .u8 1] 5)
        have h2 := a2.new (Z' := fun k => k = u.heap.size) hb fun k hk => .inr (by subst hk; simp)
        refine (h2.append (by omega) (by omega) (by omega) (lit1_rec u 1 (by decide) rfl) (by omega) (by omega)).mono ?_
        rintro e w' ⟨_, ⟨_, rfl, hl⟩ | ⟨hno, _⟩⟩
        · exact ⟨rfl, _, by rw [List.length_append, a1]; rfl, hl.less fun k hk => hk.elim⟩
        · exact absurd ⟨by omega, by rw [half512, need_one]; omega⟩ hno
      have HR4 : Hid (∀ u, (∃ rs' : List Rec, rs'.length = 2 ∧ Lg w1 u gl gd 512 (L + L + L + 1 + 1) 3 2 rs' (fun _ => False)) → Calls Try.prog 17 #[.pointer (some ⟨gl, 0, none⟩)] u fun e w' => ∃ A c, e = .returned (.slice A 2 c) ∧ Below w.heap.size w w') := Lib.hid fun u h => by
        obtain ⟨rs', a1, a2⟩ := h
        refine a2.records.mono ?_
        rintro e w' ⟨⟨v', rfl, hl⟩, hb⟩
        obtain ⟨A, c, rfl⟩ := hl.form
        exact ⟨A, c, by rw [a1], bbt (bbt HB1.out a2.bel) hb⟩
      have hLi1 : (1 : Int) ≤ (L : Int) := by omega
      have hLi2 : (L : Int) ≤ 200 := by omega
      clear hi1 hi2 hik
      go_wp2_with (first
        | (have _t := H10; clear _t; go_at_call 17; refine (HR4.out _ H11.out).mono ?_; rintro e w12 ⟨A12, c12, rfl, b12⟩; have B12 := Lib.hid b12; clear b12)
        | (go_at_call 17; refine HRC.out.mono ?_; rintro e w5 ⟨A5, c5, rfl, hc5, h5⟩; have H5 := Lib.hid h5; clear h5)
        | (go_at_call 14; refine H5.out.used.mono ?_; rintro e w6 ⟨rfl, h6⟩; have H6 := Lib.hid h6; clear h6)
        | (have _t := H9; clear _t; go_at_call 12; refine (HC3.out _ _ _ H9.out).mono ?_; rintro e w10 ⟨rfl, h10⟩; have H10 := Lib.hid h10; clear h10)
        | (have _t := H8; clear _t; go_at_call 12; refine (HC2.out _ _ _ _ _ H8.out).mono ?_; rintro e w9 ⟨rfl, h9⟩; have H9 := Lib.hid h9; clear h9)
        | (go_at_call 12; refine (HC1.out _ _ _ H6.out).mono ?_; rintro e w7 ⟨rfl, h7⟩; have H7 := Lib.hid h7; obtain ⟨ad, vs, rfl, hv1, hv2, hv3, hv4⟩ := h7.copy (by omega); have HV := Lib.hid (And.intro hv1 (And.intro hv2 (And.intro hv3 hv4))); clear h7 hv1 hv2 hv3 hv4)
        | (at_builtin; refine wpList_append_at rfl _ _ 33 rfl w7.heap.size 35 (.slice none 0 0) 1 24 Try.underlying33 rows_info rfl (by omega) _ 0 [] rfl (World.ownsRow_made w7 #[] 0 (Nat.le_refl _) (by simp only [maxLen]; omega) rfl) ad L c5 vs rfl HV.out.1 HV.out.2.1 HV.out.2.2.1 (by simp only [maxLen]; omega) (by omega) (by simp) ?_; intro v8 w8 o8 p8 q8; obtain ⟨A1, c1, rfl, hc1, h8⟩ := HV.out.2.2.2 v8 w8 o8 p8; have H8 := Lib.hid h8; clear o8 p8 q8 h8)
        | (at_builtin; refine wpList_append_zero rfl _ rfl _ L c1 rfl hc1 ?_)
        | (go_at_call 19; refine (HA4.out _ H10.out).mono ?_; rintro e w11 ⟨rfl, h11⟩; have H11 := Lib.hid h11; clear h11))
      trace_state
      go_ret
      exact ⟨rfl, B12.out⟩
end Go.Proofs.Ytmcbmbcfgefocaa
