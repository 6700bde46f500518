/- Fractions: their texts are read, their bytes are one and the same. -/
import Derived.Test.YtglcififcldchaaGreatDoorPRca
import Derived.Test.YtglcififcldchaaGreatDoorPSh
import Derived.Test.YtglcififcldchaaGreatDoorPRcc
import Derived.Test.YtglcififcldchaaGreatDoorPRl
import Derived.Test.YtglcififcldchaaGreatDoorPShR
namespace Go.Proofs.YtglcififcldchaaGreatDoor
open Go.RowKit
set_option linter.unusedVariables false

theorem split_uniq {c : UInt8} : ∀ {l l' r r' : List UInt8}, c ∉ l → c ∉ l' → l ++ c :: r = l' ++ c :: r' → l = l' ∧ r = r'
  | [], [], r, r', _, _, h => by
    simp only [List.nil_append, List.cons.injEq, true_and] at h
    exact ⟨rfl, h⟩
  | [], b :: l', r, r', _, h', h => by
    simp only [List.nil_append, List.cons_append, List.cons.injEq] at h
    exact absurd (by rw [h.1]; exact List.mem_cons_self) h'
  | a :: l, [], r, r', h', _, h => by
    simp only [List.nil_append, List.cons_append, List.cons.injEq] at h
    exact absurd (by rw [← h.1]; exact List.mem_cons_self) h'
  | a :: l, b :: l', r, r', h1, h2, h => by
    simp only [List.cons_append, List.cons.injEq] at h
    obtain ⟨rfl, h⟩ := h
    obtain ⟨rfl, rfl⟩ := split_uniq (fun m => h1 (List.mem_cons_of_mem _ m)) (fun m => h2 (List.mem_cons_of_mem _ m)) h
    exact ⟨rfl, rfl⟩
theorem pow_40 : (4294967296 : Nat) ^ 4 ≤ 10 ^ 40 := by decide
theorem decS_short {N : Nat} (h : N < 4294967296 ^ 4) : (decS N).size ≤ 40 := by
  rcases Nat.eq_zero_or_pos N with rfl | h0
  · rw [decS_zero]; decide
  · obtain ⟨k, k0, k1, k2, e⟩ := decS_strF h0
    have hk : k ≤ 40 := by
      rcases Nat.lt_or_ge 40 k with h1 | h1
      · have h2 := Nat.pow_le_pow_right (show 0 < 10 by omega) (show 40 ≤ k - 1 by omega)
        have h3 := pow_40
        omega
      · exact h1
    rw [e]
    have : (strF k (fun j => dig N (k - 1 - j))).size = k := by simp [strF, ByteArray.size]
    omega
theorem textI_short {X : Int} (h : X.natAbs < 4294967296 ^ 4) : (textI X).size ≤ 41 := by
  have := decS_short h
  unfold textI
  split
  · rw [ByteArray.size_append]; show 1 + _ ≤ _; omega
  · omega
theorem parse_text {q : Rat} (hb : BQ 4 q) (w : World) : Calls Tryz.prog 39 #[.string (textQ q)] w fun e w' => RatOfPost w w' e q true := by
  have s1 := textI_short hb.1
  have s2 := decS_short hb.2
  have i1 := text_intB hb.1 (by omega)
  have n47 : (47 : UInt8) ∉ (textI q.num).data.toList := fun hx => by
    rcases intB_mem i1.1 hx with e | e
    · exact absurd e (by decide)
    · exact absurd e (by decide)
  by_cases hd : q.den = 1
  · have n46 : (46 : UInt8) ∉ (textI q.num).data.toList := fun hx => by
      rcases intB_mem i1.1 hx with e | e
      · exact absurd e (by decide)
      · exact absurd e (by decide)
    have e : textQ q = textI q.num := by unfold textQ; rw [if_pos hd]
    rw [e]
    have h := qparse_yes (textI q.num) 41 _ _ w (by omega) (by omega) (by omega) fun w => written_n (textI q.num) 41 true w s1 (by omega) (by omega) (index_none _ _ n47) (index_none _ _ n46) i1.1
    have e2 : Rat.divInt (intV (textI q.num)) 1 = q := by
      rw [i1.2]
      have := Rat.num_divInt_den q
      rw [hd] at this
      exact this
    rw [e2] at h
    exact h
  · have e : textQ q = textI q.num ++ ⟨#[47]⟩ ++ decS q.den := by
      unfold textQ
      rw [if_neg hd]
      have : textI (q.den : Int) = decS q.den := by unfold textI; rw [if_neg (by omega), Int.natAbs_natCast]
      rw [this]
    have hl : (textQ q).data.toList = (textI q.num).data.toList ++ 47 :: (decS q.den).data.toList := by rw [e]; simp
    have hsz : (textQ q).size ≤ 100 := by rw [e, ByteArray.size_append, ByteArray.size_append]; show _ + 1 + _ ≤ _; omega
    obtain ⟨hn, hv⟩ := decS_read (Nat.lt_of_lt_of_le hb.2 pow_40) (by omega)
    have h1 := num_yes hn
    rw [hv] at h1
    have hden := den_pos' q
    generalize textQ q = s at *
    rcases index_cases s 47 with ⟨h0, n0⟩ | ⟨i, hi, hi1, hil, hn0⟩
    · exact absurd (by rw [hl]; simp) n0
    · obtain ⟨e1, e2⟩ := split_uniq hn0 n47 (hil.symm.trans hl)
      replace e1 : s.extract 0 i = textI q.num := ByteArray.ext (Array.toList_inj.1 e1)
      replace e2 : s.extract (i + 1) s.size = decS q.den := ByteArray.ext (Array.toList_inj.1 e2)
      have h := qparse_yes s 100 (intV (textI q.num)) (numV (decS q.den)) w (by omega) (by omega) (by rw [h1.2]; exact hden) fun w => written_q s i 100 _ _ true w (by omega) hi1 hi fun w => by
        rw [e1, e2]
        exact quot_yes _ _ 100 w (by omega) (by omega) (by omega) i1.1 h1.1 (by rw [h1.2]; omega)
      rw [i1.2, h1.2, Rat.num_divInt_den] at h
      exact h
theorem IsEnc.uniq {X : Int} {n m : Nat} {F G : Nat → Nat} (h : IsEnc X n F) (h' : IsEnc X m G) : n = m ∧ ∀ j, j < n → F j = G j := by
  obtain ⟨p, f, rfl, a2, a3, a4, a5, a6, a7⟩ := h
  obtain ⟨q, g, rfl, b2, b3, b4, b5, b6, b7⟩ := h'
  obtain ⟨rfl, he⟩ := a4.uniq b4 (by omega) a5 b5 (a6.trans b6.symm)
  refine ⟨rfl, fun j hj => ?_⟩
  rcases Nat.eq_zero_or_pos j with e | e
  · subst e; rw [a2, b2]
  · obtain ⟨i, rfl⟩ : ∃ i, j = 1 + i := ⟨j - 1, by omega⟩
    rw [a3 i (by omega), b3 i (by omega)]
    unfold byteOf
    by_cases h : i < 2
    · rw [if_pos h, if_pos h]
    · rw [if_neg h, if_neg h, he _ (by omega)]
theorem EncQ.uniq {q : Rat} {n m : Nat} {F G : Nat → Nat} (h : EncQ q n F) (h' : EncQ q m G) : n = m ∧ ∀ j, j < n → F j = G j := by
  obtain ⟨a, b, rfl, h1, h2⟩ := h
  obtain ⟨c, d, rfl, g1, g2⟩ := h'
  obtain ⟨rfl, e1⟩ := h1.uniq g1
  obtain ⟨rfl, e2⟩ := h2.uniq g2
  refine ⟨rfl, fun j hj => ?_⟩
  rcases Nat.lt_or_ge j a with e | e
  · exact e1 j e
  · obtain ⟨i, rfl⟩ : ∃ i, j = a + i := ⟨j - a, by omega⟩
    exact e2 i (by omega)
theorem isqb_rows {w : World} {v1 v2 : Value} {q : Rat} {n m : Nat} (h1 : IsQB w v1 q n) (h2 : IsQB w v2 q m) : Calls Tryz.prog 46 #[v1, v2] w fun e w' => e = .returned (.bool true) ∧ Below w.heap.size w w' := by
  obtain ⟨F, a1, a2⟩ := h1
  obtain ⟨G, b1, b2⟩ := h2
  obtain ⟨rfl, he⟩ := a2.uniq b2
  exact byt_rows a1 b1 (by have := a2.le; omega) he
theorem isqb_read {w : World} {v : Value} {q : Rat} {n : Nat} (h : IsQB w v q n) : Calls Tryz.prog 41 #[v] w fun e w' => ReadResQ w w' e true q 0 (fun _ => 0) := by
  obtain ⟨F, a1, a2⟩ := h
  obtain ⟨r1, r2, r3, _⟩ := a2.read (n := n) (g := F) (Nat.le_refl _) (fun _ _ => rfl)
  have := q_read a1 (by have := a2.le; omega)
  rw [r1, r2, r3, Nat.sub_self] at this
  refine this.mono fun e w' ⟨va, vb, h1, h2, h3, h4⟩ => ⟨va, vb, h1, h2, h3.congr fun j hj => absurd hj (by omega), h4⟩
theorem intRM_small {f : Nat → Nat} {n : Nat} (hf : ∀ j, j < n → f j < 256) : ∀ j, j < intRM f n → readG (tl f) j < 256 := fun j hj => by
  unfold intRM at hj
  split at hj
  · have hr : Readable (tl f) (n - 1) := by
      by_cases hr : Readable (tl f) (n - 1)
      · exact hr
      · rw [(read_none hr).2.2] at hj; omega
    rw [(read_yes hr).2.2] at hj
    unfold readG tl
    unfold tl at hj
    exact hf _ (by omega)
  · omega
theorem bq_qRV {f : Nat → Nat} {n : Nat} (hf : ∀ j, j < n → f j < 256) (hn : n ≤ 1000) : BQ 1000 (qRV f n) := by
  unfold qRV
  split
  · rename_i h
    unfold qOk at h
    rw [Bool.and_eq_true, Bool.and_eq_true, Bool.and_eq_true, decide_eq_true_eq] at h
    exact divInt_bq h.2.2.1 (pow_up (intRV_lt hf) hn) (pow_up (intRV_lt (intRM_small hf)) (Nat.le_trans (intRM_le f n) hn)) (Nat.le_refl _) (Nat.le_refl _)
  · exact bq_zero (by omega)
end Go.Proofs.YtglcififcldchaaGreatDoor

/- What a law over fractions wants: awake, few. -/
namespace Go.Proofs.YtglcififcldchaaGreatDoor
open Go.RowKit
attribute [local go_sem ↓] Go.wp_at_zero Go.wp_at_succ
set_option linter.unusedVariables false

theorem text_is {k : Nat} {w : World} {v : Value} {q : Rat} {T : ByteArray} (hT : textQ q = T) (h : LimQ k w v q) (hk : k ≤ 1000) (h1 : 1 ≤ k) : Calls Tryz.prog 44 #[v] w fun e w' => e = .returned (.string T) ∧ Below w.heap.size w w' := by
  subst hT; exact q_text h hk h1
theorem qcmp_is {k l : Nat} {w : World} {v v' : Value} {x y : Rat} {r : Int} (hr : cmpQ x y = r) (hx : LimQ k w v x) (hy : LimQ l w v' y) (hk : k ≤ 40000) (hl : l ≤ 40000) (h1 : 1 ≤ k) (h1' : 1 ≤ l) : Calls Tryz.prog 21 #[v, v'] w fun e w' => e = .returned (.int .i64 r) ∧ Below w.heap.size w w' := by
  subst hr; exact q_cmp hx hy hk hl h1 h1'
theorem qadd_is {k l : Nat} {w : World} {v v' : Value} {x y z : Rat} (hz : x + y = z) (hx : LimQ k w v x) (hy : LimQ l w v' y) (hk : k ≤ 40000) (hl : l ≤ 40000) (h1 : 1 ≤ k) (h1' : 1 ≤ l) : Calls Tryz.prog 23 #[v, v'] w fun e w' => RatPost w w' e z := by
  subst hz; exact q_add hx hy hk hl h1 h1'
theorem qfloor_is {k : Nat} {w : World} {v : Value} {q : Rat} {z : Int} (hz : q.floor = z) (h : LimQ k w v q) (hk : k ≤ 100000) (h1 : 1 ≤ k) : Calls Tryz.prog 33 #[v] w fun e w' => IntPost w w' e z := by
  subst hz; exact q_floor h hk h1
theorem qceil_is {k : Nat} {w : World} {v : Value} {q : Rat} {z : Int} (hz : ceilQ q = z) (h : LimQ k w v q) (hk : k ≤ 100000) (h1 : 1 ≤ k) : Calls Tryz.prog 35 #[v] w fun e w' => IntPost w w' e z := by
  subst hz; exact q_ceil h hk h1
theorem qfrac_is {k : Nat} {w : World} {v : Value} {q z : Rat} (hz : q - (q.floor : Rat) = z) (h : LimQ k w v q) (hk : k ≤ 100000) (h1 : 1 ≤ k) : Calls Tryz.prog 31 #[v] w fun e w' => RatPost w w' e z := by
  subst hz; exact q_frac h hk h1
theorem bq_chk {k : Nat} {q : Rat} (h : (decide (q.num.natAbs < 4294967296 ^ k) && decide (q.den < 4294967296 ^ k)) = true) : BQ k q := by
  rw [Bool.and_eq_true, decide_eq_true_eq, decide_eq_true_eq] at h; exact h
theorem text_a : textQ (Rat.divInt (-3) 2) = ⟨#[45, 51, 47, 50]⟩ := by kernel_rfl
theorem text_c : textQ (Rat.divInt 1 2) = ⟨#[49, 47, 50]⟩ := by kernel_rfl
theorem text_s : textQ (Rat.divInt (-1) 1) = ⟨#[45, 49]⟩ := by kernel_rfl

theorem few_no1 (b : Bool) (A : Option Addr) (n c : Nat) (b' : Bool) (A' : Option Addr) (n' c' : Nat) (w : World) (h : ¬ n ≤ 4) : Calls Tryz.prog 13 #[(.agg #[.bool b, .slice A n c, .bool b', .slice A' n' c'])] w fun e w' => e = .returned (.bool false) ∧ Below w.heap.size w w' := by
  have g1 : ¬ (n : Int) ≤ 4 := by omega
  clear h
  go_enter Tryz.func13, Tryz.ntmps13
  go_wp2
  go_ret
  exact ⟨rfl, below_new _ _⟩
theorem few_no2 (b : Bool) (A : Option Addr) (n c : Nat) (b' : Bool) (A' : Option Addr) (n' c' : Nat) (w : World) (h : n ≤ 4) (h' : ¬ n' ≤ 4) : Calls Tryz.prog 13 #[(.agg #[.bool b, .slice A n c, .bool b', .slice A' n' c'])] w fun e w' => e = .returned (.bool false) ∧ Below w.heap.size w w' := by
  have g1 : (n : Int) ≤ 4 := by omega
  have g2 : ¬ (n' : Int) ≤ 4 := by omega
  clear h h'
  go_enter Tryz.func13, Tryz.ntmps13
  go_wp2
  go_ret
  exact ⟨rfl, below_new _ _⟩
theorem few_yes (b : Bool) (A : Option Addr) (n c : Nat) (b' : Bool) (A' : Option Addr) (n' c' : Nat) (w : World) (h : n ≤ 4) (h' : n' ≤ 4) : Calls Tryz.prog 13 #[(.agg #[.bool b, .slice A n c, .bool b', .slice A' n' c'])] w fun e w' => e = .returned (.bool true) ∧ Below w.heap.size w w' := by
  have g1 : (n : Int) ≤ 4 := by omega
  have g2 : (n' : Int) ≤ 4 := by omega
  clear h h'
  go_enter Tryz.func13, Tryz.ntmps13
  go_wp2
  go_ret
  exact ⟨rfl, below_new _ _⟩
theorem few3_any (b : Bool) (A : Option Addr) (n c : Nat) (b' : Bool) (A' : Option Addr) (n' c' : Nat) (w : World) : Calls Tryz.prog 13 #[(.agg #[.bool b, .slice A n c, .bool b', .slice A' n' c'])] w fun e w' => e = .returned (.bool (decide (n ≤ 4) && decide (n' ≤ 4))) ∧ Below w.heap.size w w' := by
  by_cases h : n ≤ 4
  · by_cases h' : n' ≤ 4
    · rw [decide_eq_true h, decide_eq_true h']; exact few_yes b A n c b' A' n' c' w h h'
    · rw [decide_eq_true h, decide_eq_false h']; exact few_no2 b A n c b' A' n' c' w h h'
  · rw [decide_eq_false h]; exact few_no1 b A n c b' A' n' c' w h

set_option maxRecDepth 100000 in
set_option maxHeartbeats 8000000 in
theorem awake3 (w : World) :
    Calls Tryz.prog 12 #[] w fun e w' => e = .returned (.bool true) ∧ Below w.heap.size w w' := by
  have HOF : ∀ w, Hid (Calls Tryz.prog 29 #[.int .i64 6, .int .i64 (-4)] w fun e w' => RatOfPost w w' e (Rat.divInt (-3) 2) true) := fun w => by
    have := of_q 6 (-4) w (by omega) (by omega) (by omega) (by omega)
    rw [show Rat.divInt 6 (-4) = Rat.divInt (-3) 2 from by decide, show decide ((-4 : Int) ≠ 0) = true from rfl] at this
    exact this
  have HNO : ∀ w, Hid (Calls Tryz.prog 29 #[.int .i64 1, .int .i64 0] w fun e w' => RatOfPost w w' e (Rat.divInt 1 0) false) := fun w => by
    have := of_q 1 0 w (by omega) (by omega) (by omega) (by omega)
    rw [show decide ((0 : Int) ≠ 0) = false from rfl] at this
    exact this
  have HPB := fun w => Lib.hid (parse_b w)
  have HPC := fun w => Lib.hid (parse_c w)
  have BA : Hid (BQ 1 (Rat.divInt (-3) 2)) := bq_chk (by decide)
  have BC : Hid (BQ 1 (Rat.divInt 1 2)) := bq_chk (by decide)
  have BS : Hid (BQ 1 (Rat.divInt (-1) 1)) := bq_chk (by decide)
  have TA := Lib.hid text_a
  have TC := Lib.hid text_c
  have TS := Lib.hid text_s
  have FA : Hid ((Rat.divInt (-3) 2).floor = -2) := by show _ = _; decide
  have RA : Hid (Rat.divInt (-3) 2 - (((Rat.divInt (-3) 2).floor : Int) : Rat) = Rat.divInt 1 2) := by
    show _ = _
    rw [FA.out, int_divInt, Rat.divInt_sub_divInt _ _ (by omega) (by omega)]
    decide
  have CA : Hid (ceilQ (Rat.divInt (-3) 2) = -1) := by
    show _ = _
    unfold ceilQ
    rw [RA.out, if_neg (by decide), FA.out]
    rfl
  have MA : Hid (cmpQ (Rat.divInt (-3) 2) (Rat.divInt 1 2) = -1) := by show _ = _; decide
  have SA : Hid (Rat.divInt (-3) 2 + Rat.divInt 1 2 = Rat.divInt (-1) 1) := by
    show _ = _
    rw [Rat.divInt_add_divInt _ _ (by omega) (by omega)]
    decide
  have E1 : ((⟨#[45, 51, 47, 50]⟩ : ByteArray).toList == [45, 51, 47, 50]) = true := by rw [Lib.toList_data]; rfl
  have E2 : ((⟨#[49, 47, 50]⟩ : ByteArray).toList == [49, 47, 50]) = true := by rw [Lib.toList_data]; rfl
  have E3 : ((⟨#[45, 49]⟩ : ByteArray).toList == [45, 49]) = true := by rw [Lib.toList_data]; rfl
  generalize Rat.divInt (-3) 2 = qa at *
  generalize Rat.divInt 1 2 = qc at *
  generalize Rat.divInt (-1) 1 = qs at *
  generalize Rat.divInt 1 0 = qn at *
  generalize hT1 : (⟨#[45, 51, 47, 50]⟩ : ByteArray) = T1 at TA E1
  generalize hT2 : (⟨#[49, 47, 50]⟩ : ByteArray) = T2 at TC E2
  generalize hT3 : (⟨#[45, 49]⟩ : ByteArray) = T3 at TS E3
  clear hT1 hT2 hT3
  go_enter Tryz.func12, Tryz.ntmps12
  go_wp2_with fail
  refine Calls.mono ((HOF _).out) ?_
  rintro e w1 ⟨v, rfl, h, hb⟩
  have hk := h
  obtain ⟨b1, A1, n1, c1, d1, B1, m1, k1, rfl, -, -, -, -, -⟩ := h.form
  clear h
  have hB := hb
  have a_1 := Lib.hid (hk)
  have HB_1 := Lib.hid (hB)
  have hs_1 : w.heap.size ≤ w1.heap.size := HB_1.out.size
  have hz_1 : w.heap.size + 0 ≤ w1.heap.size := (by have h := hb.size; (try simp at h); omega)
  clear hB hb 
  go_wp2_with fail
  refine Calls.mono ((HNO _).out) ?_
  rintro e w2 ⟨v, rfl, h, hb⟩
  have hk := h
  obtain ⟨b2, A2, n2, c2, d2, B2, m2, k2, rfl, -, -, -, -, -⟩ := h.form
  clear h
  clear hk
  have hB := bun (hb)
  have a_2 := Lib.hid (a_1.out.below hB)
  have Ka_2 := Lib.hid (show Blk w2 (w1.heap.size) 26 #[.bool b1, .slice A1 n1 c1, .bool d1, .slice B1 m1 k1] from (Blk.new _ _ (by simp) _ _).below hb)
  have HB_2 := Lib.hid (below_trans HB_1.out hB)
  have hs_2 : w.heap.size ≤ w2.heap.size := HB_2.out.size
  have hz_2 : w1.heap.size + 1 ≤ w2.heap.size := (by have h := hb.size; (try simp at h); omega)
  clear hB hb a_1 HB_1
  go_wp2_with fail
  refine Calls.mono ((HPB _).out) ?_
  rintro e w3 ⟨v, rfl, h, hb⟩
  have hk := h
  obtain ⟨b3, A3, n3, c3, d3, B3, m3, k3, rfl, -, -, -, -, -⟩ := h.form
  clear h
  have hB := bun (hb)
  have a_3 := Lib.hid (a_2.out.below hB)
  have Ka_3 := Lib.hid (Ka_2.out.below hB)
  have Kn_3 := Lib.hid (show Blk w3 (w2.heap.size) 26 #[.bool b2, .slice A2 n2 c2, .bool d2, .slice B2 m2 k2] from (Blk.new _ _ (by simp) _ _).below hb)
  have b_3 := Lib.hid (hk)
  have HB_3 := Lib.hid (below_trans HB_2.out hB)
  have hs_3 : w.heap.size ≤ w3.heap.size := HB_3.out.size
  have hz_3 : w2.heap.size + 1 ≤ w3.heap.size := (by have h := hb.size; (try simp at h); omega)
  clear hB hb a_2 Ka_2 HB_2
  go_wp2_with fail
  refine Calls.mono ((HPC _).out) ?_
  rintro e w4 ⟨v, rfl, h, hb⟩
  have hk := h
  obtain ⟨b4, A4, n4, c4, d4, B4, m4, k4, rfl, -, -, -, -, -⟩ := h.form
  clear h
  have hB := bun (hb)
  have a_4 := Lib.hid (a_3.out.below hB)
  have b_4 := Lib.hid (b_3.out.below hB)
  have Ka_4 := Lib.hid (Ka_3.out.below hB)
  have Kb_4 := Lib.hid (show Blk w4 (w3.heap.size) 26 #[.bool b3, .slice A3 n3 c3, .bool d3, .slice B3 m3 k3] from (Blk.new _ _ (by simp) _ _).below hb)
  have c_4 := Lib.hid (hk)
  have HB_4 := Lib.hid (below_trans HB_3.out hB)
  have hs_4 : w.heap.size ≤ w4.heap.size := HB_4.out.size
  have hz_4 : w3.heap.size + 1 ≤ w4.heap.size := (by have h := hb.size; (try simp at h); omega)
  clear hB hb a_3 b_3 Ka_3 Kn_3 HB_3
  go_upto_region 5 with fail
  generalize hW : (w4.alloc (.cells #[.bool b4, .slice A4 n4 c4, .bool d4, .slice B4 m4 k4] 26)) = w5
  have a_5 := Lib.hid (hW ▸ (a_4.out.alloc_ _))
  have b_5 := Lib.hid (hW ▸ (b_4.out.alloc_ _))
  have c_5 := Lib.hid (hW ▸ (c_4.out.alloc_ _))
  have Ka_5 := Lib.hid (show Blk w5 (w1.heap.size) 26 #[.bool b1, .slice A1 n1 c1, .bool d1, .slice B1 m1 k1] from by rw [← hW]; exact (Ka_4.out.alloc_ _))
  have Kb_5 := Lib.hid (show Blk w5 (w3.heap.size) 26 #[.bool b3, .slice A3 n3 c3, .bool d3, .slice B3 m3 k3] from by rw [← hW]; exact (Kb_4.out.alloc_ _))
  have Kc_5 := Lib.hid (show Blk w5 (w4.heap.size) 26 #[.bool b4, .slice A4 n4 c4, .bool d4, .slice B4 m4 k4] from by rw [← hW]; exact Blk.new _ _ (by simp) _ _)
  have HB_5 := Lib.hid (show Below w.heap.size w w5 from by rw [← hW]; exact halloc (HB_4.out))
  have hs_5 : w.heap.size ≤ w5.heap.size := HB_5.out.size
  have hz_5 : w4.heap.size + 1 ≤ w5.heap.size := by rw [← hW]; simp
  clear hW a_4 b_4 c_4 Ka_4 Kb_4 HB_4
  obtain ⟨p10, p11, p12, p13, l1⟩ := Ka_5.out.use4
  obtain ⟨p20, p21, p22, p23, l2⟩ := Kb_5.out.use4
  obtain ⟨p30, p31, p32, p33, l3⟩ := Kc_5.out.use4
  go_wp2_with fail
  refine Calls.mono (text_is TA.out (a_5.out.limQ BA.out) (by omega) (by omega)) ?_
  rintro e w6 ⟨rfl, hb⟩
  have hB := hb
  have a_6 := Lib.hid (a_5.out.below hB)
  have b_6 := Lib.hid (b_5.out.below hB)
  have c_6 := Lib.hid (c_5.out.below hB)
  have Ka_6 := Lib.hid (Ka_5.out.below hB)
  have Kb_6 := Lib.hid (Kb_5.out.below hB)
  have Kc_6 := Lib.hid (Kc_5.out.below hB)
  have HB_6 := Lib.hid (below_trans HB_5.out hB)
  have hs_6 : w.heap.size ≤ w6.heap.size := HB_6.out.size
  have hz_6 : w5.heap.size + 0 ≤ w6.heap.size := (by have h := hb.size; (try simp at h); omega)
  clear hB hb a_5 b_5 c_5 Ka_5 Kb_5 Kc_5 HB_5 p10 p11 p12 p13 l1 p20 p21 p22 p23 l2 p30 p31 p32 p33 l3
  obtain ⟨p40, p41, p42, p43, l4⟩ := Ka_6.out.use4
  obtain ⟨p50, p51, p52, p53, l5⟩ := Kb_6.out.use4
  go_wp2_with fail
  refine Calls.mono (rat_same a_6.out b_6.out BA.out (by omega)) ?_
  rintro e w7 ⟨rfl, hb⟩
  have hB := hb
  have a_7 := Lib.hid (a_6.out.below hB)
  have c_7 := Lib.hid (c_6.out.below hB)
  have Ka_7 := Lib.hid (Ka_6.out.below hB)
  have Kc_7 := Lib.hid (Kc_6.out.below hB)
  have HB_7 := Lib.hid (below_trans HB_6.out hB)
  have hs_7 : w.heap.size ≤ w7.heap.size := HB_7.out.size
  have hz_7 : w6.heap.size + 0 ≤ w7.heap.size := (by have h := hb.size; (try simp at h); omega)
  clear hB hb a_6 b_6 c_6 Ka_6 Kb_6 Kc_6 HB_6 p40 p41 p42 p43 l4 p50 p51 p52 p53 l5
  obtain ⟨p60, p61, p62, p63, l6⟩ := Kc_7.out.use4
  go_wp2_with fail
  refine Calls.mono (text_is TC.out (c_7.out.limQ BC.out) (by omega) (by omega)) ?_
  rintro e w8 ⟨rfl, hb⟩
  have hB := hb
  have a_8 := Lib.hid (a_7.out.below hB)
  have c_8 := Lib.hid (c_7.out.below hB)
  have Ka_8 := Lib.hid (Ka_7.out.below hB)
  have Kc_8 := Lib.hid (Kc_7.out.below hB)
  have HB_8 := Lib.hid (below_trans HB_7.out hB)
  have hs_8 : w.heap.size ≤ w8.heap.size := HB_8.out.size
  have hz_8 : w7.heap.size + 0 ≤ w8.heap.size := (by have h := hb.size; (try simp at h); omega)
  clear hB hb a_7 c_7 Ka_7 Kc_7 HB_7 p60 p61 p62 p63 l6
  obtain ⟨p70, p71, p72, p73, l7⟩ := Ka_8.out.use4
  go_wp2_with fail
  refine Calls.mono (qfloor_is FA.out (a_8.out.limQ BA.out) (by omega) (by omega)) ?_
  rintro e w9 ⟨v, rfl, h, hb⟩
  obtain ⟨b9, A9, n9, c9, rfl, -, -, h⟩ := h.form
  have hB := hb
  have a_9 := Lib.hid (a_8.out.below hB)
  have c_9 := Lib.hid (c_8.out.below hB)
  have Ka_9 := Lib.hid (Ka_8.out.below hB)
  have Kc_9 := Lib.hid (Kc_8.out.below hB)
  have f_9 := Lib.hid (h)
  have HB_9 := Lib.hid (below_trans HB_8.out hB)
  have hs_9 : w.heap.size ≤ w9.heap.size := HB_9.out.size
  have hz_9 : w8.heap.size + 0 ≤ w9.heap.size := (by have h := hb.size; (try simp at h); omega)
  clear hB hb a_8 c_8 Ka_8 Kc_8 HB_8 p70 p71 p72 p73 l7
  go_wp2_with fail
  refine Calls.mono (rof_any (-2) _ (by omega) (by omega)) ?_
  rintro e w10 ⟨v, rfl, h, hb⟩
  obtain ⟨b10, A10, n10, c10, rfl, -, -, h⟩ := h.form
  have hB := hb
  have a_10 := Lib.hid (a_9.out.below hB)
  have c_10 := Lib.hid (c_9.out.below hB)
  have f_10 := Lib.hid (f_9.out.below hB)
  have Ka_10 := Lib.hid (Ka_9.out.below hB)
  have Kc_10 := Lib.hid (Kc_9.out.below hB)
  have g_10 := Lib.hid (h)
  have HB_10 := Lib.hid (below_trans HB_9.out hB)
  have hs_10 : w.heap.size ≤ w10.heap.size := HB_10.out.size
  have hz_10 : w9.heap.size + 0 ≤ w10.heap.size := (by have h := hb.size; (try simp at h); omega)
  clear hB hb a_9 c_9 f_9 Ka_9 Kc_9 HB_9
  go_wp2_with fail
  refine Calls.mono (isInt_same (k := 1) f_10.out g_10.out (by decide) (by omega)) ?_
  rintro e w11 ⟨rfl, hb⟩
  have hB := hb
  have a_11 := Lib.hid (a_10.out.below hB)
  have c_11 := Lib.hid (c_10.out.below hB)
  have Ka_11 := Lib.hid (Ka_10.out.below hB)
  have Kc_11 := Lib.hid (Kc_10.out.below hB)
  have HB_11 := Lib.hid (below_trans HB_10.out hB)
  have hs_11 : w.heap.size ≤ w11.heap.size := HB_11.out.size
  have hz_11 : w10.heap.size + 0 ≤ w11.heap.size := (by have h := hb.size; (try simp at h); omega)
  clear hB hb a_10 c_10 f_10 g_10 Ka_10 Kc_10 HB_10
  obtain ⟨p80, p81, p82, p83, l8⟩ := Ka_11.out.use4
  go_wp2_with fail
  refine Calls.mono (qceil_is CA.out (a_11.out.limQ BA.out) (by omega) (by omega)) ?_
  rintro e w12 ⟨v, rfl, h, hb⟩
  obtain ⟨b12, A12, n12, c12, rfl, -, -, h⟩ := h.form
  have hB := hb
  have a_12 := Lib.hid (a_11.out.below hB)
  have c_12 := Lib.hid (c_11.out.below hB)
  have Ka_12 := Lib.hid (Ka_11.out.below hB)
  have Kc_12 := Lib.hid (Kc_11.out.below hB)
  have f_12 := Lib.hid (h)
  have HB_12 := Lib.hid (below_trans HB_11.out hB)
  have hs_12 : w.heap.size ≤ w12.heap.size := HB_12.out.size
  have hz_12 : w11.heap.size + 0 ≤ w12.heap.size := (by have h := hb.size; (try simp at h); omega)
  clear hB hb a_11 c_11 Ka_11 Kc_11 HB_11 p80 p81 p82 p83 l8
  go_wp2_with fail
  refine Calls.mono (rof_any (-1) _ (by omega) (by omega)) ?_
  rintro e w13 ⟨v, rfl, h, hb⟩
  obtain ⟨b13, A13, n13, c13, rfl, -, -, h⟩ := h.form
  have hB := hb
  have a_13 := Lib.hid (a_12.out.below hB)
  have c_13 := Lib.hid (c_12.out.below hB)
  have f_13 := Lib.hid (f_12.out.below hB)
  have Ka_13 := Lib.hid (Ka_12.out.below hB)
  have Kc_13 := Lib.hid (Kc_12.out.below hB)
  have g_13 := Lib.hid (h)
  have HB_13 := Lib.hid (below_trans HB_12.out hB)
  have hs_13 : w.heap.size ≤ w13.heap.size := HB_13.out.size
  have hz_13 : w12.heap.size + 0 ≤ w13.heap.size := (by have h := hb.size; (try simp at h); omega)
  clear hB hb a_12 c_12 f_12 Ka_12 Kc_12 HB_12
  go_wp2_with fail
  refine Calls.mono (isInt_same (k := 1) f_13.out g_13.out (by decide) (by omega)) ?_
  rintro e w14 ⟨rfl, hb⟩
  have hB := hb
  have a_14 := Lib.hid (a_13.out.below hB)
  have c_14 := Lib.hid (c_13.out.below hB)
  have Ka_14 := Lib.hid (Ka_13.out.below hB)
  have Kc_14 := Lib.hid (Kc_13.out.below hB)
  have HB_14 := Lib.hid (below_trans HB_13.out hB)
  have hs_14 : w.heap.size ≤ w14.heap.size := HB_14.out.size
  have hz_14 : w13.heap.size + 0 ≤ w14.heap.size := (by have h := hb.size; (try simp at h); omega)
  clear hB hb a_13 c_13 f_13 g_13 Ka_13 Kc_13 HB_13
  obtain ⟨p90, p91, p92, p93, l9⟩ := Ka_14.out.use4
  go_wp2_with fail
  refine Calls.mono (qfrac_is RA.out (a_14.out.limQ BA.out) (by omega) (by omega)) ?_
  rintro e w15 ⟨v, rfl, h, hb⟩
  have hk := h
  obtain ⟨b15, A15, n15, c15, d15, B15, m15, k15, rfl, -, -, -, -, -⟩ := h.form
  clear h
  have hB := hb
  have a_15 := Lib.hid (a_14.out.below hB)
  have c_15 := Lib.hid (c_14.out.below hB)
  have Ka_15 := Lib.hid (Ka_14.out.below hB)
  have Kc_15 := Lib.hid (Kc_14.out.below hB)
  have r_15 := Lib.hid (hk)
  have HB_15 := Lib.hid (below_trans HB_14.out hB)
  have hs_15 : w.heap.size ≤ w15.heap.size := HB_15.out.size
  have hz_15 : w14.heap.size + 0 ≤ w15.heap.size := (by have h := hb.size; (try simp at h); omega)
  clear hB hb a_14 c_14 Ka_14 Kc_14 HB_14 p90 p91 p92 p93 l9
  go_wp2_with fail
  refine Calls.mono (text_is TC.out (r_15.out.limQ BC.out) (by omega) (by omega)) ?_
  rintro e w16 ⟨rfl, hb⟩
  have hB := hb
  have a_16 := Lib.hid (a_15.out.below hB)
  have c_16 := Lib.hid (c_15.out.below hB)
  have Ka_16 := Lib.hid (Ka_15.out.below hB)
  have Kc_16 := Lib.hid (Kc_15.out.below hB)
  have HB_16 := Lib.hid (below_trans HB_15.out hB)
  have hs_16 : w.heap.size ≤ w16.heap.size := HB_16.out.size
  have hz_16 : w15.heap.size + 0 ≤ w16.heap.size := (by have h := hb.size; (try simp at h); omega)
  clear hB hb a_15 c_15 r_15 Ka_15 Kc_15 HB_15
  obtain ⟨p100, p101, p102, p103, l10⟩ := Ka_16.out.use4
  obtain ⟨p110, p111, p112, p113, l11⟩ := Kc_16.out.use4
  go_wp2_with fail
  refine Calls.mono (qcmp_is MA.out (a_16.out.limQ BA.out) (c_16.out.limQ BC.out) (by omega) (by omega) (by omega) (by omega)) ?_
  rintro e w17 ⟨rfl, hb⟩
  have hB := hb
  have a_17 := Lib.hid (a_16.out.below hB)
  have c_17 := Lib.hid (c_16.out.below hB)
  have Ka_17 := Lib.hid (Ka_16.out.below hB)
  have Kc_17 := Lib.hid (Kc_16.out.below hB)
  have HB_17 := Lib.hid (below_trans HB_16.out hB)
  have hs_17 : w.heap.size ≤ w17.heap.size := HB_17.out.size
  have hz_17 : w16.heap.size + 0 ≤ w17.heap.size := (by have h := hb.size; (try simp at h); omega)
  clear hB hb a_16 c_16 Ka_16 Kc_16 HB_16 p100 p101 p102 p103 l10 p110 p111 p112 p113 l11
  obtain ⟨p120, p121, p122, p123, l12⟩ := Ka_17.out.use4
  obtain ⟨p130, p131, p132, p133, l13⟩ := Kc_17.out.use4
  go_wp2_with fail
  refine Calls.mono (qadd_is SA.out (a_17.out.limQ BA.out) (c_17.out.limQ BC.out) (by omega) (by omega) (by omega) (by omega)) ?_
  rintro e w18 ⟨v, rfl, h, hb⟩
  have hk := h
  obtain ⟨b18, A18, n18, c18, d18, B18, m18, k18, rfl, -, -, -, -, -⟩ := h.form
  clear h
  have hB := hb
  have s_18 := Lib.hid (hk)
  have HB_18 := Lib.hid (below_trans HB_17.out hB)
  have hs_18 : w.heap.size ≤ w18.heap.size := HB_18.out.size
  have hz_18 : w17.heap.size + 0 ≤ w18.heap.size := (by have h := hb.size; (try simp at h); omega)
  clear hB hb a_17 c_17 Ka_17 Kc_17 HB_17 p120 p121 p122 p123 l12 p130 p131 p132 p133 l13
  go_wp2_with fail
  refine Calls.mono (text_is TS.out (s_18.out.limQ BS.out) (by omega) (by omega)) ?_
  rintro e w19 ⟨rfl, hb⟩
  have hB := hb
  have s_19 := Lib.hid (s_18.out.below hB)
  have HB_19 := Lib.hid (below_trans HB_18.out hB)
  have hs_19 : w.heap.size ≤ w19.heap.size := HB_19.out.size
  have hz_19 : w18.heap.size + 0 ≤ w19.heap.size := (by have h := hb.size; (try simp at h); omega)
  clear hB hb s_18 HB_18
  go_wp2
  go_ret
  exact ⟨rfl, HB_19.out⟩
end Go.Proofs.YtglcififcldchaaGreatDoor

/- RatioReckons: the walk. -/
namespace Go.Proofs.YtglcififcldchaaGreatDoor
open Go.RowKit
attribute [local go_sem ↓] Go.wp_at_zero Go.wp_at_succ
set_option linter.unusedVariables false

theorem lq {k : Nat} {w : World} {v : Value} {X Y : Int} {q : Rat} (hq : q = ratOf X Y) (h : LimR k w v X Y) : LimQ k w v q := ⟨X, Y, h, hq⟩
theorem rlr_may {k : Nat} {w : World} {v : Value} {X Y : Int} {m : Bool} (hm : decide (0 < Y) = m) (h : LimR k w v X Y) (hk : k ≤ 1000000) : Calls Tryz.prog 17 #[v] w fun e w' => e = .returned (.bool m) ∧ Below w.heap.size w w' := by
  subst hm
  obtain ⟨b, A, n, c, b', A', n', c', rfl, -, h2⟩ := h.form
  rcases Int.lt_trichotomy Y 0 with hY | hY | hY
  · rw [decide_eq_false (by omega)]; exact rmay_n b A n c b' A' n' c' w k Y h2 hk hY
  · rw [decide_eq_false (by omega)]; exact rmay_z b A n c b' A' n' c' w k Y h2 hk hY
  · rw [decide_eq_true hY]; exact rmay_t b A n c b' A' n' c' w k Y h2 hk hY
theorem few_is (b : Bool) (A : Option Addr) (n c : Nat) (b' : Bool) (A' : Option Addr) (n' c' : Nat) (w : World) (r : Bool) (hr : (decide (n ≤ 4) && decide (n' ≤ 4)) = r) : Calls Tryz.prog 13 #[.agg #[.bool b, .slice A n c, .bool b', .slice A' n' c']] w fun e w' => e = .returned (.bool r) ∧ Below w.heap.size w w' := by
  subst hr; exact few3_any b A n c b' A' n' c' w
end Go.Proofs.YtglcififcldchaaGreatDoor
