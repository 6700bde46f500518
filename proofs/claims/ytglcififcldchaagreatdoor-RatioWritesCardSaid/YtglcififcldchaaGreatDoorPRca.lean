/- Parse of any text of at most 200 characters: both sides tell the same. -/
import Derived.Test.YtglcififcldchaaGreatDoorPRpa
import Derived.Test.YtglcififcldchaaGreatDoorPRpd
import Derived.Test.YtglcififcldchaaGreatDoorPWs
import Derived.Test.YtglcififcldchaaGreatDoorPRb
namespace Go.Proofs.YtglcififcldchaaGreatDoor
open Go.RowKit
open Classical
set_option linter.unusedVariables false

theorem index_cases (s : ByteArray) (c : UInt8) : (Lib.indexByte s.data.toList c = -1 ∧ c ∉ s.data.toList) ∨
    ∃ i, i < s.size ∧ Lib.indexByte s.data.toList c = (i : Int) ∧ s.data.toList = (s.extract 0 i).data.toList ++ c :: (s.extract (i + 1) s.size).data.toList ∧ c ∉ (s.extract 0 i).data.toList := by
  by_cases h : c ∈ s.data.toList
  · obtain ⟨l, r, e, hn⟩ := List.eq_append_cons_of_mem h
    have hl : s.size = l.length + (r.length + 1) := by rw [Lib.size_eq, e, List.length_append, List.length_cons]
    have e1 : (s.extract 0 l.length).data.toList = l := by
      rw [ByteArray.data_extract, Array.toList_extract, List.extract_eq_take_drop, e]
      simp
    have e2 : (s.extract (l.length + 1) s.size).data.toList = r := by
      rw [ByteArray.data_extract, Array.toList_extract, List.extract_eq_take_drop, hl, e, show l ++ c :: r = (l ++ [c]) ++ r from by simp, List.drop_left' (by simp), List.take_of_length_le (by omega)]
    refine .inr ⟨l.length, by omega, by rw [e, index_at _ _ _ hn], by rw [e1, e2]; exact e, by rw [e1]; exact hn⟩
  · exact .inl ⟨index_none _ _ h, h⟩
theorem mem_digitsOf (h : ByteArray) (x : UInt8) (hx : x ∈ h.data.toList) : x = 45 ∨ x ∈ (digitsOf h).data.toList := by
  unfold digitsOf
  by_cases hm : minusB h = true
  · rw [if_pos hm]
    obtain ⟨h0, h1⟩ := (minusB_iff h).1 hm
    have hl : h.data.toList.length = h.size := (Lib.size_eq h).symm
    cases hd : h.data.toList with
    | nil => rw [hd] at hx; cases hx
    | cons a t =>
      have e : (tailS h).data.toList = t := by
        unfold tailS
        rw [ByteArray.data_extract, Array.toList_extract, List.extract_eq_take_drop, hd, ← hl, hd, List.drop_one, List.tail_cons, List.take_of_length_le (by simp)]
      rw [hd, List.mem_cons] at hx
      rcases hx with rfl | hx
      · refine .inl ?_
        unfold bt at h1
        rw [hd] at h1
        exact UInt8.toNat_inj.1 h1
      · exact .inr (by rw [e]; exact hx)
  · rw [if_neg hm]; exact .inr hx
theorem isNum_mem {h : ByteArray} (hn : isNumB (digitsOf h) = true) {x : UInt8} (hx : x ∈ h.data.toList) : x = 45 ∨ (48 ≤ x.toNat ∧ x.toNat ≤ 57) := by
  rcases mem_digitsOf h x hx with e | e
  · exact .inl e
  · exact .inr (isNum_dg ((isNumB_iff _).1 hn) x e)
theorem intB_mem {h : ByteArray} (hn : intB h = true) {x : UInt8} (hx : x ∈ h.data.toList) : x = 45 ∨ (48 ≤ x.toNat ∧ x.toNat ≤ 57) := by
  unfold intB at hn
  rw [Bool.and_eq_true] at hn
  exact isNum_mem hn.1 hx
theorem numB_mem {h : ByteArray} (hn : isNumB h = true) {x : UInt8} (hx : x ∈ h.data.toList) : 48 ≤ x.toNat ∧ x.toNat ≤ 57 := isNum_dg ((isNumB_iff _).1 hn) x hx
/-- What a text with a point tells. -/
noncomputable def okD (h t : ByteArray) : Bool := isNumB (digitsOf h) && decide (0 < t.size ∧ Dg t.data.toList)
noncomputable def qD (h t : ByteArray) : Rat := if okD h t then Rat.divInt (sg (minusB h) (numV (digitsOf h) * 10 ^ t.size + lv t.data.toList)) ((10 ^ t.size : Nat) : Int) else 0
theorem okD_no {h t : ByteArray} (hn : okD h t = false) : qD h t = 0 := by unfold qD; rw [hn]; rfl
theorem okD_yes {h t : ByteArray} (ho : okD h t = true) : qD h t = Rat.divInt (sg (minusB h) (numV (digitsOf h) * 10 ^ t.size + lv t.data.toList)) ((10 ^ t.size : Nat) : Int) := by unfold qD; rw [if_pos ho]
theorem pow10_pos (n : Nat) : (0 : Int) < ((10 ^ n : Nat) : Int) := by have := Nat.pow_pos (n := n) (show 0 < 10 by omega); omega
theorem prog_dec (s : ByteArray) (i : Nat) (hs : s.size ≤ 200) (h0 : Lib.indexByte s.data.toList 47 = -1) (h1 : Lib.indexByte s.data.toList 46 = i) (hi : i < s.size) (w : World) :
    Calls Tryz.prog 39 #[.string s] w fun e w' => RatOfPost w w' e (qD (s.extract 0 i) (s.extract (i + 1) s.size)) (okD (s.extract 0 i) (s.extract (i + 1) s.size)) := by
  have hh : (s.extract 0 i).size ≤ 200 := by rw [ByteArray.size_extract]; omega
  have ht : (s.extract (i + 1) s.size).size ≤ 200 := by rw [ByteArray.size_extract]; omega
  obtain ⟨K, hK⟩ : ∃ K : Nat, K = 300 := ⟨_, rfl⟩
  cases hn : isNumB (digitsOf (s.extract 0 i))
  · have ho : okD (s.extract 0 i) (s.extract (i + 1) s.size) = false := by unfold okD; rw [hn]; rfl
    rw [ho, okD_no ho]
    refine qparse_no s K 0 0 w (by omega) fun w => written_d s i K 0 0 false w (by omega) h0 h1 hi fun w => ?_
    by_cases hd : 0 < (s.extract (i + 1) s.size).size ∧ Dg (s.extract (i + 1) s.size).data.toList
    · exact dec_no1 _ _ K w (by omega) hn _ true fun w => places_all w hd.2 (by omega) hd.1
    · exact dec_no1 _ _ K w (by omega) hn _ false fun w => places_no _ w (by omega) hd
  · by_cases hd : 0 < (s.extract (i + 1) s.size).size ∧ Dg (s.extract (i + 1) s.size).data.toList
    · have ho : okD (s.extract 0 i) (s.extract (i + 1) s.size) = true := by unfold okD; rw [hn, decide_eq_true hd]; rfl
      have hq := okD_yes ho
      rw [ho, hq]
      obtain ⟨z1, z2⟩ := one_zeros (s.extract (i + 1) s.size).size (by omega)
      refine qparse_yes s (K + K + 1) _ _ w (by omega) (by omega) (pow10_pos _) fun w => written_d s i (K + K + 1) _ _ true w (by omega) h0 h1 hi fun w => ?_
      exact dec_yes _ _ _ _ K w (by omega) rfl (by omega) (by omega) hn (fun w => places_all w hd.2 (by omega) hd.1)
        (Nat.lt_of_lt_of_le (lv_lt hd.2) (by
          rw [← Lib.size_eq]
          exact Nat.le_trans (Nat.pow_le_pow_left (by decide) _) (Nat.pow_le_pow_right (by decide) (by omega))))
        (fun w => repeat_any _ w (by omega)) z1 z2
    · have ho : okD (s.extract 0 i) (s.extract (i + 1) s.size) = false := by unfold okD; rw [hn, decide_eq_false hd]; rfl
      rw [ho, okD_no ho]
      refine qparse_no s K 0 0 w (by omega) fun w => written_d s i K 0 0 false w (by omega) h0 h1 hi fun w => ?_
      exact dec_no2 _ _ K w (by omega) hn _ fun w => places_no _ w (by omega) hd
theorem ref_dec (s : ByteArray) (i : Nat) (hs : s.size ≤ 200) (hi0 : 0 < i) (hi : i < s.size) (w : World) :
    Calls Tryz.prog 78 #[.string s, .int .i64 (i : Int)] w fun e w' => RatOfPost w w' e (qD (s.extract 0 i) (s.extract (i + 1) s.size)) (okD (s.extract 0 i) (s.extract (i + 1) s.size)) := by
  have htz := (tail_bt hi).1
  obtain ⟨K, hK⟩ : ∃ K : Nat, K = 300 := ⟨_, rfl⟩
  have hb0 : bt (s.extract 0 i) 0 = (s[0]'(by omega)).toNat := by rw [bt_extract s 0 i 0 (by omega) (by omega)]; exact bt_get s 0 (by omega)
  have hsz : (s.extract 0 i).size = i := by rw [ByteArray.size_extract]; omega
  have hmi := minusB_iff (s.extract 0 i)
  unfold Minus at hmi
  rw [hb0, hsz] at hmi
  have hdo : digitsOf (s.extract 0 i) = if minusB (s.extract 0 i) then s.extract 1 i else s.extract 0 i := by
    unfold digitsOf tailS
    rw [hsz, ByteArray.extract_extract]
    simp
  have hNs : (digitsOf (s.extract 0 i)).size ≤ K := by have := digitsOf_size (s.extract 0 i); omega
  generalize hmb : minusB (s.extract 0 i) = mb at *
  have hz : (((s[0]'(by omega)).toNat : Int) == 45) = mb := by
    cases mb
    · rw [beq_eq_false_iff_ne]
      intro e
      have := hmi.2 ⟨hi0, by omega⟩
      cases this
    · rw [beq_iff_eq]
      have := hmi.1 rfl
      omega
  have HN := fun w => str_rparse (digitsOf (s.extract 0 i)) w (by omega)
  rw [hdo] at HN
  have hlim : numV (digitsOf (s.extract 0 i)) < 4294967296 ^ K := numV_lim hNs
  rw [hdo] at hlim
  cases hn : isNumB (digitsOf (s.extract 0 i))
  · have ho : okD (s.extract 0 i) (s.extract (i + 1) s.size) = false := by unfold okD; rw [hn]; rfl
    rw [ho, okD_no ho]
    rw [hdo] at hn
    cases mb
    · exact rdec_no_f s i _ w (by omega) hi0 hi hz (fun w => by have := HN w; rw [hn] at this; exact this)
    · exact rdec_no_t s i _ w (by omega) hi0 hi hz (fun w => by have := HN w; rw [hn] at this; exact this)
  · by_cases hend : i + 1 = s.size
    · have ho : okD (s.extract 0 i) (s.extract (i + 1) s.size) = false := by unfold okD; rw [decide_eq_false (by omega), Bool.and_false]
      rw [ho, okD_no ho]
      rw [hdo] at hn
      cases mb
      · exact rdec_end_f s i _ w (by omega) hi0 hi hz (fun w => by have := HN w; rw [hn] at this; exact this) hend
      · exact rdec_end_t s i _ w (by omega) hi0 hi hz (fun w => by have := HN w; rw [hn] at this; exact this) hend
    · have hin : i + 1 < s.size := by omega
      have key : Calls Tryz.prog 78 #[.string s, .int .i64 (i : Int)] w fun e w' => RdPost w w' e (Dg (s.extract (i + 1) s.size).data.toList) (Rat.divInt (sg mb (numV (digitsOf (s.extract 0 i)) * 10 ^ (s.size - (i + 1)) + lv (s.extract (i + 1) s.size).data.toList)) ((10 ^ (s.size - (i + 1)) : Nat) : Int)) := by
        rw [hdo] at hn ⊢
        cases mb
        · exact rdec_in_f s i _ w (by omega) hi0 hi hz (fun w => by have := HN w; rw [hn] at this; exact this) hin K hlim (by omega)
        · exact rdec_in_t s i _ w (by omega) hi0 hi hz (fun w => by have := HN w; rw [hn] at this; exact this) hin K hlim (by omega)
      refine key.mono fun e w' h => ?_
      by_cases hd : Dg (s.extract (i + 1) s.size).data.toList
      · have ho : okD (s.extract 0 i) (s.extract (i + 1) s.size) = true := by unfold okD; rw [hn, decide_eq_true ⟨by omega, hd⟩]; rfl
        have hq := okD_yes ho
        rw [ho, hq, htz, hmb]
        exact h.1 hd
      · have ho : okD (s.extract 0 i) (s.extract (i + 1) s.size) = false := by unfold okD; rw [decide_eq_false (fun h => hd h.2), Bool.and_false]
        rw [ho, okD_no ho]
        exact h.2 hd
theorem okD_short {h t : ByteArray} (hd : (digitsOf h).size = 0) : okD h t = false := by
  unfold okD
  have : isNumB (digitsOf h) = false := by
    rw [← Bool.not_eq_true, isNumB_iff]
    intro hn
    have := hn.1
    omega
  rw [this]
  rfl
theorem ref_point (s : ByteArray) (j : Nat) (hs : s.size ≤ 200) (h1 : Lib.indexByte s.data.toList 46 = j) (hj : j < s.size) (w : World) :
    Calls Tryz.prog 40 #[.string s] w fun e w' => RatOfPost w w' e (qD (s.extract 0 j) (s.extract (j + 1) s.size)) (okD (s.extract 0 j) (s.extract (j + 1) s.size)) := by
  have hsz : (s.extract 0 j).size = j := by rw [ByteArray.size_extract]; omega
  rcases Nat.lt_or_ge 1 j with h | h
  · exact rp_dec s w (by omega) (by omega) j h h1 _ _ fun w => ref_dec s j hs (by omega) hj w
  · have h2 : j = 0 ∨ j = 1 := by omega
    rcases h2 with rfl | rfl
    · have ho : okD (s.extract 0 0) (s.extract (0 + 1) s.size) = false := okD_short (by have := digitsOf_size (s.extract 0 0); omega)
      rw [ho, okD_no ho]
      exact rp_point s w (by omega) (by omega) h1
    · cases hz : (((s[0]'(by omega)).toNat : Int) == 45)
      · exact rp_dec1 s w (by omega) (by omega) h1 hz _ _ fun w => ref_dec s 1 hs (by omega) hj w
      · have hm : minusB (s.extract 0 1) = true := by
          rw [minusB_iff]
          refine ⟨by omega, ?_⟩
          rw [bt_extract s 0 1 0 (by omega) (by omega), show 0 + 0 = 0 from rfl, bt_get s 0 (by omega)]
          rw [beq_iff_eq] at hz
          omega
        have ho : okD (s.extract 0 1) (s.extract (1 + 1) s.size) = false := okD_short (by
          unfold digitsOf tailS
          rw [if_pos hm, ByteArray.size_extract]
          omega)
        rw [ho, okD_no ho]
        exact rp_minus s w (by omega) (by omega) h1 hz
theorem intV_no {s : ByteArray} (h : intB s = false) : intV s = 0 := by
  unfold intV
  unfold intB at h
  have : numV (digitsOf s) = 0 := by
    cases hn : isNumB (digitsOf s)
    · refine (num_no fun hI => ?_).2
      rw [(isNumB_iff _).2 hI] at hn
      cases hn
    · rw [hn, Bool.true_and, Bool.or_eq_false_iff, decide_eq_false_iff_not] at h
      omega
  rw [this]
  cases minusB s <;> rfl
theorem bq_qD {h t : ByteArray} (hh : h.size ≤ 200) (ht : t.size ≤ 200) {K : Nat} (hK : K = 700) : BQ K (qD h t) := by
  cases ho : okD h t
  · rw [okD_no ho]; exact bq_zero (by omega)
  · rw [okD_yes ho]
    have hd : Dg t.data.toList := by
      unfold okD at ho
      rw [Bool.and_eq_true, decide_eq_true_eq] at ho
      exact ho.2.2
    have h1 : numV (digitsOf h) < 4294967296 ^ 200 := numV_lim (by have := digitsOf_size h; omega)
    have h2 : lv t.data.toList < 10 ^ t.size := by rw [Lib.size_eq]; exact lv_lt hd
    exact divInt_bq (k := 200 + t.size) (l := t.size + 1) (pow10_pos _) (by rw [sg_abs]; exact dec_lim h1 h2) (by rw [Int.natAbs_natCast]; exact ten_lim _) (by omega) (by omega)
theorem slash_no {s : ByteArray} {j : Nat} (hl : s.data.toList = (s.extract 0 j).data.toList ++ 46 :: (s.extract (j + 1) s.size).data.toList) (h : (47 : UInt8) ∈ s.data.toList) : okD (s.extract 0 j) (s.extract (j + 1) s.size) = false := by
  rw [← Bool.not_eq_true]
  intro ho
  unfold okD at ho
  rw [Bool.and_eq_true, decide_eq_true_eq] at ho
  rw [hl, List.mem_append, List.mem_cons] at h
  rcases h with h | h | h
  · rcases isNum_mem ho.1 h with e | e
    · exact absurd e (by decide)
    · exact absurd e (by decide)
  · exact absurd h (by decide)
  · exact absurd (ho.2.2 _ h) (by decide)
/-- Both sides tell the same of a text. -/
theorem parse_both (s : ByteArray) (hs : s.size ≤ 200) : ∃ (q : Rat) (ok : Bool) (K : Nat), 1 ≤ K ∧ K ≤ 1000 ∧ BQ K q ∧
    (∀ w, Calls Tryz.prog 39 #[.string s] w fun e w' => RatOfPost w w' e q ok) ∧
    (∀ w, Calls Tryz.prog 40 #[.string s] w fun e w' => RatOfPost w w' e q ok) := by
  obtain ⟨K, hK⟩ : ∃ K : Nat, K = 700 := ⟨_, rfl⟩
  have hB0 : BQ K (0 : Rat) := bq_zero (by omega)
  rcases index_cases s 47 with ⟨h0, n0⟩ | ⟨i, hi, hi1, hil, -⟩
  · rcases index_cases s 46 with ⟨h1, n1⟩ | ⟨j, hj, hj1, -, -⟩
    · have hlim : (intV s).natAbs < 4294967296 ^ K := intV_lim (by omega)
      have hbq : BQ K ((intV s : Int) : Rat) := ⟨by rw [Rat.num_intCast]; exact hlim, by rw [Rat.den_intCast]; exact Nat.one_lt_pow (by omega) (by decide)⟩
      refine ⟨(intV s : Rat), intB s, K, by omega, by omega, hbq, fun w => ?_, fun w => ?_⟩
      · cases hb : intB s
        · rw [intV_no hb]
          exact qparse_no s K _ _ w (by omega) fun w => written_n s K false w (by omega) (by omega) (by omega) h0 h1 hb
        · have := qparse_yes s K _ _ w (by omega) (by omega) (by omega) fun w => written_n s K true w (by omega) (by omega) (by omega) h0 h1 hb
          have e := Rat.num_divInt_den ((intV s : Int) : Rat)
          rw [Rat.num_intCast, Rat.den_intCast] at e
          rw [show Rat.divInt (intV s) 1 = ((intV s : Int) : Rat) from e] at this
          exact this
      · by_cases hz : s.size = 0
        · have hb : intB s = false := by
            rw [← Bool.not_eq_true]
            intro hb
            unfold intB at hb
            rw [Bool.and_eq_true, isNumB_iff] at hb
            have := hb.1.1
            have := digitsOf_size s
            omega
          rw [hb, intV_no hb]
          exact rp_empty s w (by omega) hz
        · exact rp_whole s w (by omega) (by omega) h1 h0 _ rfl
    · have e1 : (s.extract 0 j).size ≤ 200 := by rw [ByteArray.size_extract]; omega
      have e2 : (s.extract (j + 1) s.size).size ≤ 200 := by rw [ByteArray.size_extract]; omega
      exact ⟨_, _, K, by omega, by omega, bq_qD e1 e2 hK, prog_dec s j hs h0 hj1 hj, ref_point s j hs hj1 hj⟩
  · have e1 : (s.extract 0 i).size ≤ K := by rw [ByteArray.size_extract]; omega
    have e2 : (s.extract (i + 1) s.size).size ≤ K := by rw [ByteArray.size_extract]; omega
    have pno : ∀ (X Y : Int), (∀ w, Calls Tryz.prog 109 #[.string (s.extract 0 i), .string (s.extract (i + 1) s.size)] w fun e w' => WrPost K w w' e X Y false) → ∀ w, Calls Tryz.prog 39 #[.string s] w fun e w' => RatOfPost w w' e 0 false := fun X Y h w =>
      qparse_no s K X Y w (by omega) fun w => written_q s i K X Y false w (by omega) hi1 hi h
    rcases index_cases s 46 with ⟨h1, n1⟩ | ⟨j, hj, hj1, hjl, -⟩
    · cases hb : intB (s.extract 0 i)
      · exact ⟨0, false, K, by omega, by omega, hB0, pno _ _ fun w => quot_no1 _ _ K w e1 e2 (by omega) hb, fun w => rp_quot1 s w (by omega) (by omega) h1 i hi1 hi hb _ rfl⟩
      · cases hd : isNumB (s.extract (i + 1) s.size)
        · exact ⟨0, false, K, by omega, by omega, hB0, pno _ _ fun w => quot_no2 _ _ K w e1 e2 (by omega) hb hd, fun w => rp_quot2 s w (by omega) (by omega) h1 i hi1 hi hb hd⟩
        · rcases Nat.eq_zero_or_pos (numV (s.extract (i + 1) s.size)) with hz | hz
          · exact ⟨0, false, K, by omega, by omega, hB0, pno _ _ fun w => quot_no3 _ _ K w e1 e2 (by omega) hb hd hz, fun w => rp_quot3 s w (by omega) (by omega) h1 i hi1 hi hb hd hz⟩
          · exact ⟨_, true, K, by omega, by omega, divInt_bq (by omega) (intV_lim e1) (by rw [Int.natAbs_natCast]; exact numV_lim e2) (Nat.le_refl _) (Nat.le_refl _),
              fun w => qparse_yes s K _ _ w (by omega) (by omega) (by omega) fun w => written_q s i K _ _ true w (by omega) hi1 hi fun w => quot_yes _ _ K w e1 e2 (by omega) hb hd hz,
              fun w => rp_quoty s w (by omega) (by omega) h1 i hi1 hi hb hd hz K (by omega) (by omega)⟩
    · have hmem : (47 : UInt8) ∈ s.data.toList := by rw [hil]; simp
      have ho := slash_no hjl hmem
      have hr := ref_point s j hs hj1 hj
      rw [ho, okD_no ho] at hr
      have hdot : (46 : UInt8) ∈ (s.extract 0 i).data.toList ∨ (46 : UInt8) ∈ (s.extract (i + 1) s.size).data.toList := by
        have h : (46 : UInt8) ∈ s.data.toList := by rw [hjl]; simp
        rw [hil, List.mem_append, List.mem_cons] at h
        rcases h with h | h | h
        · exact .inl h
        · exact absurd h (by decide)
        · exact .inr h
      refine ⟨0, false, K, by omega, by omega, hB0, ?_, hr⟩
      cases hb : intB (s.extract 0 i)
      · exact pno _ _ fun w => quot_no1 _ _ K w e1 e2 (by omega) hb
      · cases hd : isNumB (s.extract (i + 1) s.size)
        · exact pno _ _ fun w => quot_no2 _ _ K w e1 e2 (by omega) hb hd
        · rcases hdot with h | h
          · rcases intB_mem hb h with e | e
            · exact absurd e (by decide)
            · exact absurd e (by decide)
          · exact absurd (numB_mem hd h) (by decide)
end Go.Proofs.YtglcififcldchaaGreatDoor

/- Numbers written one behind the other. Nothing of the program is in here. -/
namespace Go.Proofs.YtglcififcldchaaGreatDoor
open Go.RowKit

/-- F's first n bytes are those of X. -/
def IsEnc (X : Int) (n : Nat) (F : Nat → Nat) : Prop :=
  ∃ p f, n = 3 + 4 * p ∧ F 0 = (if X < 0 then 1 else 0) ∧ (∀ j, j < 2 + 4 * p → F (1 + j) = byteOf p f j) ∧ Trimmed f p ∧ (∀ j, j < p → f j < 4294967296) ∧ num 4294967296 f p = X.natAbs ∧ p ≤ 4096
theorem IsIB.enc {w : World} {v : Value} {X : Int} {p : Nat} (h : IsIB w v X p) : p ≤ 4096 ∧ ∃ G, Byt w v (3 + 4 * p) G ∧ IsEnc X (3 + 4 * p) G := by
  obtain ⟨f, G, h1, h2, h3, h4, h5, h6, h7⟩ := h
  exact ⟨h7, G, h1, p, f, rfl, h2, h3, h4, h5, h6, h7⟩
theorem IsEnc.congr {X : Int} {n : Nat} {F F' : Nat → Nat} (h : IsEnc X n F) (he : ∀ j, j < n → F' j = F j) : IsEnc X n F' := by
  obtain ⟨p, f, rfl, h2, h3, h4⟩ := h
  exact ⟨p, f, rfl, by rw [he 0 (by omega), h2], fun j hj => by rw [he (1 + j) (by omega), h3 j hj], h4⟩
theorem IsEnc.read {X : Int} {m n : Nat} {F g : Nat → Nat} (h : IsEnc X m F) (hn : m ≤ n) (hg : ∀ j, j < m → g j = F j) :
    intRB g n = true ∧ intRV g n = X ∧ intRM g n = n - m ∧ ∀ j, readG (tl g) j = g (m + j) := by
  obtain ⟨p, f, rfl, a2, a3, a4, a5, a6, a7⟩ := h
  have h0 : g 0 = if X < 0 then 1 else 0 := by rw [hg 0 (by omega), a2]
  obtain ⟨r1, r2, r3⟩ := readable_of (g := tl g) (n := n - 1) a7 a4 a5 (by omega) (fun j hj => by unfold tl; rw [hg (1 + j) (by omega), a3 j hj])
  have hy := read_yes r1
  rw [r2, r3, a6] at hy
  have hx : g 0 = 1 ↔ X < 0 := by rw [h0]; split <;> omega
  have hi := intR_yes (f := g) (n := n) ⟨by omega, by rw [h0]; split <;> omega, hy.1, fun h => by rw [hy.2.1]; have := hx.1 h; omega⟩
  refine ⟨hi.1, ?_, by rw [hi.2.2, hy.2.2]; omega, fun j => ?_⟩
  · rw [hi.2.1, hy.2.1, show decide (g 0 = 1) = decide (X < 0) from decide_eq_decide.2 hx]
    exact sg_of X
  · unfold readG tl
    rw [show cntOf (fun j => g (1 + j)) = p from r2]
    congr 1
    omega
end Go.Proofs.YtglcififcldchaaGreatDoor

/- Fractions as bytes: what is written and read. Nothing of the program is in here. -/
namespace Go.Proofs.YtglcififcldchaaGreatDoor
open Go.RowKit
set_option linter.unusedVariables false

theorem Byt.alloc_ {w : World} {v : Value} {n : Nat} {f : Nat → Nat} (h : Byt w v n f) (o : Obj) : Byt (w.alloc o) v n f := h.below (below_new w o)
theorem Byt.drew_ {w : World} {v : Value} {n : Nat} {f : Nat → Nat} (h : Byt w v n f) : Byt w.drew v n f := h
theorem pow_up {a b N : Nat} (h : N < 4294967296 ^ a) (hab : a ≤ b) : N < 4294967296 ^ b := Nat.lt_of_lt_of_le h (Nat.pow_le_pow_right (by omega) hab)
theorem intRV_lt {f : Nat → Nat} {n : Nat} (hf : ∀ j, j < n → f j < 256) : (intRV f n).natAbs < 4294967296 ^ n := by
  unfold intRV
  split
  · rename_i h
    rw [sg_abs]
    have hn : 0 < n := by
      unfold intRB at h
      exact (of_decide_eq_true h).1
    exact pow_up (readN_lt (f := tl f) (n := n - 1) fun j hj => hf _ (by omega)) (by omega)
  · exact Nat.pow_pos (by omega)
theorem intRM_le (f : Nat → Nat) (n : Nat) : intRM f n ≤ n := by
  unfold intRM
  split
  · have := readM_le (tl f) (n - 1); omega
  · omega
theorem own_byt {w : World} {v : Value} {base n : Nat} {F : Nat → Nat} (h : Own .u8 5 w base v n F) (hF : ∀ j, j < n → F j < 256) : Byt w v n F := by
  rcases h.form with ⟨rfl, rfl⟩ | ⟨g, c, rfl, _, hc⟩
  · exact byt_nil _ _
  · exact ⟨_, c, rfl, hc, h.rd_, hF⟩
theorem Byt.congr {w : World} {v : Value} {n : Nat} {F F' : Nat → Nat} (h : Byt w v n F) (he : ∀ j, j < n → F j = F' j) : Byt w v n F' := by
  obtain ⟨A, c, h1, h2, h3, h4⟩ := h
  exact ⟨A, c, h1, h2, h3.congr he, fun j hj => by rw [← he j hj]; exact h4 j hj⟩
/-- F's first n bytes are those of the fraction q. -/
def EncQ (q : Rat) (n : Nat) (F : Nat → Nat) : Prop := ∃ m l, n = m + l ∧ IsEnc q.num m F ∧ IsEnc (q.den : Int) l (fun j => F (m + j))
/-- The bytes of a fraction. -/
def IsQB (w : World) (v : Value) (q : Rat) (n : Nat) : Prop := ∃ G, Byt w v n G ∧ EncQ q n G
theorem IsQB.below {w w' : World} {v : Value} {q : Rat} {n : Nat} (h : IsQB w v q n) (hb : Below w.heap.size w w') : IsQB w' v q n := by
  obtain ⟨G, h1, h2⟩ := h
  exact ⟨G, h1.below hb, h2⟩
theorem IsQB.alloc_ {w : World} {v : Value} {q : Rat} {n : Nat} (h : IsQB w v q n) (o : Obj) : IsQB (w.alloc o) v q n := h.below (below_new w o)
theorem IsEnc.le {X : Int} {n : Nat} {F : Nat → Nat} (h : IsEnc X n F) : 3 ≤ n ∧ n ≤ 16387 := by
  obtain ⟨p, f, rfl, _, _, _, _, _, h⟩ := h
  omega
theorem EncQ.le {q : Rat} {n : Nat} {F : Nat → Nat} (h : EncQ q n F) : 6 ≤ n ∧ n ≤ 40000 := by
  obtain ⟨m, l, rfl, h1, h2⟩ := h
  have := h1.le
  have := h2.le
  omega
noncomputable def qOk (f : Nat → Nat) (n : Nat) : Bool := intRB f n && (intRB (readG (tl f)) (intRM f n) && (decide (0 < intRV (readG (tl f)) (intRM f n)) && decide (Int.gcd (intRV f n) (intRV (readG (tl f)) (intRM f n)) = 1)))
noncomputable def qRV (f : Nat → Nat) (n : Nat) : Rat := if qOk f n then Rat.divInt (intRV f n) (intRV (readG (tl f)) (intRM f n)) else 0
noncomputable def qRM (f : Nat → Nat) (n : Nat) : Nat := if qOk f n then intRM (readG (tl f)) (intRM f n) else 0
noncomputable def qRG (f : Nat → Nat) : Nat → Nat := readG (tl (readG (tl f)))
theorem divInt_cop {X Y : Int} (hY : 0 < Y) (hg : Int.gcd X Y = 1) : (Rat.divInt X Y).num = X ∧ ((Rat.divInt X Y).den : Int) = Y := by
  obtain ⟨h1, h2, _⟩ := divInt_parts X hY
  rw [hg] at h1 h2
  exact ⟨by simpa using h1, by simpa using h2⟩
theorem EncQ.read {q : Rat} {m n : Nat} {F g : Nat → Nat} (h : EncQ q m F) (hn : m ≤ n) (hg : ∀ j, j < m → g j = F j) :
    qOk g n = true ∧ qRV g n = q ∧ qRM g n = n - m ∧ ∀ j, qRG g j = g (m + j) := by
  obtain ⟨a, b, rfl, h1, h2⟩ := h
  obtain ⟨e1, e2, e3, e4⟩ := h1.read (g := g) (n := n) (by omega) (fun j hj => hg j (by omega))
  obtain ⟨f1, f2, f3, f4⟩ := h2.read (g := readG (tl g)) (n := intRM g n) (by omega) (fun j hj => by rw [e4]; exact hg _ (by omega))
  have hd := den_pos' q
  have hc : Int.gcd q.num (q.den : Int) = 1 := q.reduced
  have ho : qOk g n = true := by
    unfold qOk
    rw [e1, f1, e2, f2, decide_eq_true hd, decide_eq_true hc]
    rfl
  refine ⟨ho, ?_, ?_, fun j => ?_⟩
  · unfold qRV
    rw [if_pos ho, e2, f2]
    exact Rat.num_divInt_den q
  · unfold qRM
    rw [if_pos ho, f3, e3]
    omega
  · unfold qRG
    rw [f4, e4, Nat.add_assoc]
theorem qRead_no {f : Nat → Nat} {n : Nat} (h : qOk f n = false) : qRV f n = 0 ∧ qRM f n = 0 := by
  unfold qRV qRM
  rw [h]
  exact ⟨rfl, rfl⟩
/-- What a fraction's Read tells. -/
def ReadResQ (w w' : World) (e : Ending) (b : Bool) (q : Rat) (m : Nat) (g : Nat → Nat) : Prop :=
  ∃ va vb, e = .returned (.tuple #[va, vb, .bool b]) ∧ IsRat w' va q ∧ Byt w' vb m g ∧ Below w.heap.size w w'
end Go.Proofs.YtglcififcldchaaGreatDoor
