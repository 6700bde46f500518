/- Decimal texts: what they are, and what ratio.Parse tells of them. -/
import Derived.Test.YtglcififcldchaaGreatDoorPRq
import Derived.Test.YtglcififcldchaaGreatDoorPRl
import Derived.Test.YtglcififcldchaaGreatDoorPNatF
import Derived.Test.YtglcififcldchaaGreatDoorPLr
namespace Go.Proofs.YtglcififcldchaaGreatDoor
open Go.RowKit
attribute [local go_sem ↓] Go.wp_at_zero Go.wp_at_succ
set_option linter.unusedVariables false

theorem index_none : ∀ (l : List UInt8) (c : UInt8), c ∉ l → Lib.indexByte l c = -1
  | [], _, _ => rfl
  | b :: l, c, h => by
    rw [List.mem_cons, not_or] at h
    have hb : (b == c) = false := by rw [beq_eq_false_iff_ne]; exact fun e => h.1 e.symm
    rw [Lib.indexByte, hb, index_none l c h.2]
    rfl
theorem index_at (r : List UInt8) : ∀ (l : List UInt8) (c : UInt8), c ∉ l → Lib.indexByte (l ++ c :: r) c = l.length
  | [], c, _ => by rw [List.nil_append, Lib.indexByte]; simp
  | b :: l, c, h => by
    rw [List.mem_cons, not_or] at h
    have hb : (b == c) = false := by rw [beq_eq_false_iff_ne]; exact fun e => h.1 e.symm
    have h1 : ((l.length : Int) == -1) = false := by rw [beq_eq_false_iff_ne]; omega
    rw [List.cons_append, Lib.indexByte, hb, index_at r l c h.2, h1]
    simp
/-- The value of decimal digits. -/
def lv : List UInt8 → Nat
  | [] => 0
  | c :: l => (c.toNat - 48) * 10 ^ l.length + lv l
def Dg (l : List UInt8) : Prop := ∀ c ∈ l, 48 ≤ c.toNat ∧ c.toNat ≤ 57
theorem dval_lv : ∀ l : List UInt8, dval (fun i => (l.getD i 0).toNat) l.length = lv l
  | [] => rfl
  | c :: l => by
    have h : dval (fun j => ((c :: l).getD (1 + j) 0).toNat) l.length = lv l := by
      rw [← dval_lv l]
      refine dval_congr _ fun i _ => ?_
      rw [Nat.add_comm]
      rfl
    rw [List.length_cons, Nat.add_comm, dval_add, lv, h]
    simp [dval]
theorem bt_lv (s : ByteArray) : dval (bt s) s.size = lv s.data.toList := by
  rw [← dval_lv, ← Lib.size_eq]
  rfl
theorem lv_append : ∀ l r : List UInt8, lv (l ++ r) = lv l * 10 ^ r.length + lv r
  | [], r => by simp [lv]
  | c :: l, r => by
    rw [List.cons_append, lv, lv, lv_append l r, List.length_append, Nat.pow_add, Nat.add_mul, Nat.mul_assoc]
    omega
theorem lv_lt : ∀ {l : List UInt8}, Dg l → lv l < 10 ^ l.length
  | [], _ => by simp [lv]
  | c :: l, h => by
    have h1 := lv_lt (l := l) fun x hx => h x (List.mem_cons_of_mem _ hx)
    have h2 := (h c (List.mem_cons_self ..)).2
    have h3 : (c.toNat - 48) * 10 ^ l.length ≤ 9 * 10 ^ l.length := Nat.mul_le_mul_right _ (by omega)
    rw [lv, List.length_cons, Nat.pow_succ]
    omega
theorem lv_trim : ∀ l : List UInt8, lv (l.dropWhile (· == 48)) = lv l
  | [] => rfl
  | c :: l => by
    rw [List.dropWhile_cons]
    by_cases h : (c == 48) = true
    · rw [if_pos h, lv_trim l, lv]
      rw [beq_iff_eq] at h
      subst h
      simp
    · rw [if_neg h]
theorem trim_head : ∀ (l : List UInt8) {c : UInt8} {r : List UInt8}, l.dropWhile (· == 48) = c :: r → c ≠ 48
  | [], _, _, h => by simp at h
  | b :: l, c, r, h => by
    rw [List.dropWhile_cons] at h
    by_cases hb : (b == 48) = true
    · rw [if_pos hb] at h; exact trim_head l h
    · rw [if_neg hb] at h
      injection h with h1 h2
      subst h1
      exact fun e => hb (by rw [e]; rfl)
theorem isNum_of {s : ByteArray} (h0 : 0 < s.size) (hs : s.size ≤ 40000) (hd : Dg s.data.toList) (hf : bt s 0 ≠ 48 ∨ s.size = 1) : IsNum s := by
  refine ⟨h0, hs, by omega, fun i hi => ?_⟩
  rw [Lib.size_eq] at hi
  have : bt s i = (s.data.toList[i]).toNat := by unfold bt; rw [List.getD_eq_getElem?_getD, List.getElem?_eq_getElem hi]; rfl
  rw [this]
  exact hd _ (List.getElem_mem hi)
theorem isNum_dg {s : ByteArray} (h : IsNum s) : Dg s.data.toList := fun c hc => by
  obtain ⟨i, hi, rfl⟩ := List.getElem_of_mem hc
  have := h.2.2.2 i (by rw [Lib.size_eq]; exact hi)
  have e : bt s i = (s.data.toList[i]).toNat := by unfold bt; rw [List.getD_eq_getElem?_getD, List.getElem?_eq_getElem hi]; rfl
  rwa [e] at this
theorem tailZ_list (t : ByteArray) : (tailZ t).data.toList = t.data.toList.dropWhile (· == 48) := by
  unfold tailZ Lib.trimLeftB
  simp
theorem tailZ_num {t : ByteArray} (h : Dg t.data.toList) (hs : t.size ≤ 1000) (hp : 0 < (tailZ t).size) : isNumB (tailZ t) = true ∧ numV (tailZ t) = lv t.data.toList := by
  have hn : IsNum (tailZ t) := by
    refine isNum_of hp (by have := tailZ_size t; omega) (fun c hc => ?_) (.inl ?_)
    · rw [tailZ_list] at hc
      exact h c ((List.dropWhile_sublist _).subset hc)
    · have e := tailZ_list t
      cases hl : t.data.toList.dropWhile (· == 48) with
      | nil =>
        rw [hl] at e
        have : (tailZ t).size = 0 := by rw [Lib.size_eq, e]; rfl
        omega
      | cons c r =>
        rw [hl] at e
        have hc := trim_head _ hl
        unfold bt
        rw [e]
        intro h48
        apply hc
        have : c.toNat = 48 := h48
        exact UInt8.toNat_inj.1 this
  obtain ⟨h1, h2⟩ := num_yes hn
  exact ⟨h1, by rw [h2, bt_lv, tailZ_list, lv_trim]⟩
theorem tailZ_zero {t : ByteArray} (hp : (tailZ t).size = 0) : lv t.data.toList = 0 := by
  rw [← lv_trim, ← tailZ_list]
  rw [Lib.size_eq] at hp
  rw [List.eq_nil_of_length_eq_zero hp]
  rfl
theorem places_none (s : ByteArray) (w : World) (hs : s.size ≤ 1000) (h0 : 0 < s.size) (h1 : (tailZ s).size = 0) :
    Calls Tryz.prog 139 #[.string s] w fun e w' => ParsePost w w' e true 0 := by
  have D := fun w => Lib.hid (trimZ s w)
  generalize tailZ s = T at *
  have hT1 : (T.toList == []) = true := by
    rw [beq_iff_eq, Lib.toList_data]
    rw [Lib.size_eq] at h1
    exact List.eq_nil_of_length_eq_zero h1
  have hS1 : (s.toList == []) = false := by
    rw [beq_eq_false_iff_ne, Lib.toList_data]
    intro e
    rw [Lib.size_eq, e] at h0
    exact absurd h0 (by decide)
  clear h1 h0
  go_enter Tryz.func139, Tryz.ntmps139
  go_wp2_with fail
  refine (D _).out.mono ?_
  rintro e w1 ⟨rfl, rfl⟩
  clear D
  go_wp2
  go_ret2
  exact ⟨_, by simp, isNat_nil _, Below.refl _ _⟩
theorem places_all {t : ByteArray} (w : World) (h : Dg t.data.toList) (hs : t.size ≤ 1000) (h0 : 0 < t.size) :
    Calls Tryz.prog 139 #[.string t] w fun e w' => ParsePost w w' e true (lv t.data.toList) := by
  by_cases hp : (tailZ t).size = 0
  · rw [tailZ_zero hp]; exact places_none t w hs h0 hp
  · obtain ⟨h1, h2⟩ := tailZ_num h hs (by omega)
    rw [← h2]
    exact places_some t w hs (by omega) h1
theorem lv_zeros : ∀ n, lv (List.replicate n 48) = 0
  | 0 => rfl
  | n + 1 => by rw [List.replicate_succ, lv, lv_zeros n]; simp
theorem one_zeros (n : Nat) (hn : n ≤ 1000) : isNumB (⟨#[49]⟩ ++ zeros n) = true ∧ numV (⟨#[49]⟩ ++ zeros n) = 10 ^ n := by
  have hl : ((⟨#[49]⟩ : ByteArray) ++ zeros n).data.toList = 49 :: List.replicate n 48 := by
    rw [ByteArray.toList_data_append]
    simp [zeros]
  have hsz : ((⟨#[49]⟩ : ByteArray) ++ zeros n).size = n + 1 := by rw [Lib.size_eq, hl]; simp
  have hi : IsNum ((⟨#[49]⟩ : ByteArray) ++ zeros n) := by
    refine isNum_of (by omega) (by omega) (fun c hc => ?_) (.inl ?_)
    · rw [hl, List.mem_cons, List.mem_replicate] at hc
      rcases hc with rfl | ⟨_, rfl⟩ <;> decide
    · unfold bt
      rw [hl]
      show (49 : UInt8).toNat ≠ 48
      decide
  obtain ⟨h1, h2⟩ := num_yes hi
  refine ⟨h1, ?_⟩
  rw [h2, bt_lv, hl, lv, lv_zeros]
  simp
def preS (b : Bool) : ByteArray := if b then ⟨#[45]⟩ else ⟨#[]⟩
theorem pre_cut (b : Bool) {H : ByteArray} (hH : IsNum H) : minusB (preS b ++ H) = b ∧ digitsOf (preS b ++ H) = H := by
  have hp : ∀ i, i < H.size → 48 ≤ bt H i := fun i hi => (hH.2.2.2 i hi).1
  cases b
  · have e : preS false ++ H = H := by
      apply ByteArray.ext
      rw [ByteArray.data_append]
      simp [preS]
    rw [e]
    have hm : minusB H = false := by
      rw [← Bool.not_eq_true, minusB_iff]
      rintro ⟨h1, h2⟩
      have := hp 0 h1
      omega
    exact ⟨hm, by unfold digitsOf; rw [hm]; rfl⟩
  · have hm : minusB (preS true ++ H) = true := by
      rw [minusB_iff]
      refine ⟨by rw [ByteArray.size_append]; show 0 < 1 + _; omega, ?_⟩
      unfold bt
      rw [ByteArray.toList_data_append]
      rfl
    refine ⟨hm, ?_⟩
    unfold digitsOf
    rw [if_pos hm]
    exact ByteArray.extract_append_eq_right rfl ByteArray.size_append
end Go.Proofs.YtglcififcldchaaGreatDoor

/- What ratio.Parse tells of a decimal text of at most 64 places. -/
namespace Go.Proofs.YtglcififcldchaaGreatDoor
open Go.RowKit
attribute [local go_sem ↓] Go.wp_at_zero Go.wp_at_succ
set_option linter.unusedVariables false

set_option maxRecDepth 100000 in
set_option maxHeartbeats 1000000 in
theorem repeat_one (w : World) :
    Calls Tryz.prog 140 #[.string ⟨#[48]⟩, .int .i64 1] w fun e w' => e = .returned (.string (zeros 1)) ∧ Below w.heap.size w w' := by
  go_enter Tryz.func140, Tryz.ntmps140
  go_wp2
  go_ret
  exact ⟨by rfl, Below.refl _ _⟩
theorem repeat_to64 (n : Nat) (w : World) (h1 : 1 ≤ n) (h2 : n ≤ 64) :
    Calls Tryz.prog 140 #[.string ⟨#[48]⟩, .int .i64 (n : Int)] w fun e w' => e = .returned (.string (zeros n)) ∧ Below w.heap.size w w' := by
  by_cases h : n = 1
  · subst h; exact repeat_one w
  · exact repeat_few n w (by omega) h2
theorem pre_list (b : Bool) : ∀ c ∈ (preS b).data.toList, c = 45 := by
  cases b
  · intro c hc; exact absurd hc (by simp [preS])
  · intro c hc; simpa [preS] using hc
theorem dec_list (b : Bool) (H t : ByteArray) : (preS b ++ H ++ ⟨#[46]⟩ ++ t).data.toList = ((preS b).data.toList ++ H.data.toList) ++ 46 :: t.data.toList := by
  rw [ByteArray.toList_data_append, ByteArray.toList_data_append, ByteArray.toList_data_append]
  simp
theorem parse_dec (b : Bool) (H t : ByteArray) (w : World) (hH : IsNum H) (hHs : H.size ≤ 400) (ht : Dg t.data.toList) (h1 : 1 ≤ t.size) (h2 : t.size ≤ 64) :
    Calls Tryz.prog 39 #[.string (preS b ++ H ++ ⟨#[46]⟩ ++ t)] w fun e w' => RatOfPost w w' e (Rat.divInt (sg b (lv H.data.toList * 10 ^ t.size + lv t.data.toList)) ((10 ^ t.size : Nat) : Int)) true := by
  have hps : (preS b).size ≤ 1 := by cases b <;> decide
  have hl := dec_list b H t
  have hd : Dg H.data.toList := isNum_dg hH
  have hsz : (preS b ++ H).size = (preS b).size + H.size := ByteArray.size_append
  have hs3 : (preS b ++ H ++ ⟨#[46]⟩).size = (preS b ++ H).size + 1 := by rw [ByteArray.size_append]; rfl
  have hs4 : (preS b ++ H ++ ⟨#[46]⟩ ++ t).size = (preS b ++ H).size + 1 + t.size := by rw [ByteArray.size_append, hs3]
  have hn46 : (46 : UInt8) ∉ (preS b).data.toList ++ H.data.toList := by
    rw [List.mem_append]
    rintro (h | h)
    · exact absurd (pre_list b _ h) (by decide)
    · exact absurd (hd _ h).1 (by decide)
  have hn47 : (47 : UInt8) ∉ (preS b ++ H ++ ⟨#[46]⟩ ++ t).data.toList := by
    rw [hl, List.mem_append, List.mem_append, List.mem_cons]
    rintro ((h | h) | h | h)
    · exact absurd (pre_list b _ h) (by decide)
    · exact absurd (hd _ h).1 (by decide)
    · exact absurd h (by decide)
    · exact absurd (ht _ h).1 (by decide)
  obtain ⟨p1, p2⟩ := pre_cut b hH
  obtain ⟨q1, q2⟩ := num_yes hH
  obtain ⟨z1, z2⟩ := one_zeros t.size (by omega)
  obtain ⟨K, hK⟩ : ∃ K : Nat, K = 500 := ⟨_, rfl⟩
  refine qparse_yes _ (K + K + 1) _ _ w (by omega) (by omega) (by have := Nat.pow_pos (n := t.size) (show 0 < 10 by omega); omega) fun w => ?_
  refine written_d _ (preS b ++ H).size (K + K + 1) _ _ true w (by omega) (index_none _ _ hn47) ?_ (by omega) fun w => ?_
  · rw [hl, index_at _ _ _ hn46, ← ByteArray.toList_data_append, ← Lib.size_eq]
  · have e1 : (preS b ++ H ++ ⟨#[46]⟩ ++ t).extract 0 (preS b ++ H).size = preS b ++ H := by
      rw [ByteArray.append_assoc]
      exact ByteArray.extract_append_eq_left rfl
    have e2 : (preS b ++ H ++ ⟨#[46]⟩ ++ t).extract ((preS b ++ H).size + 1) (preS b ++ H ++ ⟨#[46]⟩ ++ t).size = t :=
      ByteArray.extract_append_eq_right hs3.symm ByteArray.size_append
    rw [e1, e2]
    have h := dec_yes (preS b ++ H) t t.size (lv t.data.toList) K w (by omega) rfl (by omega) (by omega) (by rw [p2]; exact q1) (fun w => places_all w ht (by omega) (by omega))
      (Nat.lt_of_lt_of_le (lv_lt ht) (by
        rw [← Lib.size_eq]
        exact Nat.le_trans (Nat.pow_le_pow_left (by decide) _) (Nat.pow_le_pow_right (by decide) (by omega))))
      (fun w => repeat_to64 t.size w h1 h2) z1 z2
    rw [p1, p2, q2, bt_lv] at h
    exact h
end Go.Proofs.YtglcififcldchaaGreatDoor

/- Contracts of the document's own fractions: Text. -/
namespace Go.Proofs.YtglcififcldchaaGreatDoor
open Go.RowKit
attribute [local go_sem ↓] Go.wp_at_zero Go.wp_at_succ
set_option linter.unusedVariables false

theorem textI_den (q : Rat) : textI (q.den : Int) = decS q.den := by
  unfold textI
  rw [if_neg (by omega), Int.natAbs_natCast]
theorem decS_one_iff {N k : Nat} (hN : N < 4294967296 ^ k) (hk : k ≤ 1000) (h : N ≠ 1) : ((decS N).toList == [49]) = false := by
  rw [beq_eq_false_iff_ne]
  intro e
  have h10 : N < 10 ^ (10 * k) := Nat.lt_of_lt_of_le hN (by rw [Nat.pow_mul]; exact Nat.pow_le_pow_left (by decide) _)
  obtain ⟨_, h2⟩ := decS_read h10 (by omega)
  have e1 : decS 1 = ⟨#[49]⟩ := by kernel_rfl
  have e2 : decS N = ⟨#[49]⟩ := by
    have : (decS N).data.toList = [49] := by
      rw [Lib.toList_data] at e
      exact e
    exact ByteArray.ext (Array.toList_inj.1 this)
  obtain ⟨_, h3⟩ := decS_read (N := 1) (q := 1) (by decide) (by omega)
  rw [e2] at h2
  rw [e1] at h3
  omega

set_option maxRecDepth 100000 in
set_option maxHeartbeats 4000000 in
theorem r_text1 (b : Bool) (A : Option Addr) (n c : Nat) (b' : Bool) (A' : Option Addr) (n' c' : Nat) (w : World) (k : Nat) (q : Rat) (hx : LimQ k w (.agg #[.bool b, .slice A n c, .bool b', .slice A' n' c']) q) (hk : k ≤ 1000) (h1 : 1 ≤ k) (hd : q.den = 1) :
    Calls Tryz.prog 45 #[(.agg #[.bool b, .slice A n c, .bool b', .slice A' n' c'])] w fun e w' => e = .returned (.string (textQ q)) ∧ Below w.heap.size w w' := by
  have x_0 := Lib.hid hx
  have BQ0 := Lib.hid (hx.bq h1)
  have BN := Lib.hid BQ0.out.1
  have BD := Lib.hid (show ((q.den : Int)).natAbs < 4294967296 ^ k from BQ0.out.2)
  clear hx
  have HT : Hid (textQ q = textI q.num) := by show textQ q = _; unfold textQ; rw [if_pos hd]
  have hl : ((decS q.den).toList == [49]) = true := by rw [hd, show decS 1 = ⟨#[49]⟩ from by kernel_rfl, Lib.toList_data]; rfl
  clear hd
  go_enter Tryz.func45, Tryz.ntmps45
  go_wp2_with fail
  refine Calls.mono (r_plain (x_0.out.alloc_ _) (by omega)) ?_
  rintro e w1 ⟨v, rfl, h, hb⟩
  obtain ⟨b1, A1, n1, c1, d1, B1, m1, k1, rfl, -, -, -, h1, h2⟩ := h.form
  have hB := bun (hb)
  have Ka_1 := Lib.hid (show Blk w1 (w.heap.size) 26 #[.bool b, .slice A n c, .bool b', .slice A' n' c'] from (Blk.new _ _ (by simp) _ _).below hb)
  have xn_1 := Lib.hid (h1)
  have xd_1 := Lib.hid (h2)
  have HB_1 := Lib.hid (hB)
  have hs_1 : w.heap.size ≤ w1.heap.size := HB_1.out.size
  have hz_1 : w.heap.size + 1 ≤ w1.heap.size := (by have h := hb.size; (try simp at h); omega)
  clear hB hb x_0
  go_wp2_with fail
  refine Calls.mono (rtext_any (k := k) (N := q.den) (LimI.mag (IsInt.lim (k := k) (xd_1.out.alloc_ _) BD.out)) hk) ?_
  rintro e w2 ⟨rfl, hb⟩
  have hB := bun (hb)
  have xn_2 := Lib.hid (xn_1.out.below hB)
  have xd_2 := Lib.hid (xd_1.out.below hB)
  have Ka_2 := Lib.hid (Ka_1.out.below hB)
  have Kx_2 := Lib.hid (show Blk w2 (w1.heap.size) 26 #[.bool b1, .slice A1 n1 c1, .bool d1, .slice B1 m1 k1] from (Blk.new _ _ (by simp) _ _).below hb)
  have HB_2 := Lib.hid (below_trans HB_1.out hB)
  have hs_2 : w.heap.size ≤ w2.heap.size := HB_2.out.size
  have hz_2 : w1.heap.size + 1 ≤ w2.heap.size := (by have h := hb.size; (try simp at h); omega)
  clear hB hb xn_1 xd_1 Ka_1 HB_1
  obtain ⟨p10, p11, p12, p13, l1⟩ := Kx_2.out.use4
  go_wp2_with fail
  refine Calls.mono (li_rtext (IsInt.lim (k := k) xn_2.out BN.out) hk) ?_
  rintro e w3 ⟨rfl, hb⟩
  have hB := hb
  have xn_3 := Lib.hid (xn_2.out.below hB)
  have xd_3 := Lib.hid (xd_2.out.below hB)
  have Ka_3 := Lib.hid (Ka_2.out.below hB)
  have Kx_3 := Lib.hid (Kx_2.out.below hB)
  have HB_3 := Lib.hid (below_trans HB_2.out hB)
  have hs_3 : w.heap.size ≤ w3.heap.size := HB_3.out.size
  have hz_3 : w2.heap.size + 0 ≤ w3.heap.size := (by have h := hb.size; (try simp at h); omega)
  clear hB hb xn_2 xd_2 Ka_2 Kx_2 HB_2 p10 p11 p12 p13 l1
  go_wp2
  go_ret
  exact ⟨by rw [HT.out]; rfl, HB_3.out⟩

set_option maxRecDepth 100000 in
set_option maxHeartbeats 4000000 in
theorem r_text0 (b : Bool) (A : Option Addr) (n c : Nat) (b' : Bool) (A' : Option Addr) (n' c' : Nat) (w : World) (k : Nat) (q : Rat) (hx : LimQ k w (.agg #[.bool b, .slice A n c, .bool b', .slice A' n' c']) q) (hk : k ≤ 1000) (h1 : 1 ≤ k) (hd : q.den ≠ 1) :
    Calls Tryz.prog 45 #[(.agg #[.bool b, .slice A n c, .bool b', .slice A' n' c'])] w fun e w' => e = .returned (.string (textQ q)) ∧ Below w.heap.size w w' := by
  have x_0 := Lib.hid hx
  have BQ0 := Lib.hid (hx.bq h1)
  have BN := Lib.hid BQ0.out.1
  have BD := Lib.hid (show ((q.den : Int)).natAbs < 4294967296 ^ k from BQ0.out.2)
  clear hx
  have HT : Hid (textQ q = textI q.num ++ ⟨#[47]⟩ ++ decS q.den) := by show textQ q = _; unfold textQ; rw [if_neg hd, textI_den]
  have hl := decS_one_iff BQ0.out.2 hk hd
  have s1 := textI_size' BQ0.out.1 hk
  have s2 := decS_size BQ0.out.2 hk
  have hcat := fun wq => run_string_add (P := Tryz.prog) wq (textI q.num) ⟨#[47]⟩ (by omega) (by show 1 ≤ _; omega)
  have s3 : (textI q.num ++ ⟨#[47]⟩).size ≤ 40002 := by rw [ByteArray.size_append]; show _ + 1 ≤ _; omega
  have hcat2 := fun wq => run_string_add (P := Tryz.prog) wq (textI q.num ++ ⟨#[47]⟩) (decS q.den) (by omega) (by omega)
  clear hd
  generalize hS1 : textI q.num = S1 at *
  generalize hS2 : decS q.den = S2 at *
  have HS1 := Lib.hid hS1
  have HS2 := Lib.hid hS2
  clear hS1 hS2
  go_enter Tryz.func45, Tryz.ntmps45
  go_wp2_with fail
  refine Calls.mono (r_plain (x_0.out.alloc_ _) (by omega)) ?_
  rintro e w1 ⟨v, rfl, h, hb⟩
  obtain ⟨b1, A1, n1, c1, d1, B1, m1, k1, rfl, -, -, -, h1, h2⟩ := h.form
  have hB := bun (hb)
  have Ka_1 := Lib.hid (show Blk w1 (w.heap.size) 26 #[.bool b, .slice A n c, .bool b', .slice A' n' c'] from (Blk.new _ _ (by simp) _ _).below hb)
  have xn_1 := Lib.hid (h1)
  have xd_1 := Lib.hid (h2)
  have HB_1 := Lib.hid (hB)
  have hs_1 : w.heap.size ≤ w1.heap.size := HB_1.out.size
  have hz_1 : w.heap.size + 1 ≤ w1.heap.size := (by have h := hb.size; (try simp at h); omega)
  clear hB hb x_0
  go_wp2_with fail
  refine Calls.mono (rtext_any (k := k) (N := q.den) (LimI.mag (IsInt.lim (k := k) (xd_1.out.alloc_ _) BD.out)) hk) ?_
  rintro e w2 ⟨rfl, hb⟩
  rw [HS2.out]
  have hB := bun (hb)
  have xn_2 := Lib.hid (xn_1.out.below hB)
  have xd_2 := Lib.hid (xd_1.out.below hB)
  have Ka_2 := Lib.hid (Ka_1.out.below hB)
  have Kx_2 := Lib.hid (show Blk w2 (w1.heap.size) 26 #[.bool b1, .slice A1 n1 c1, .bool d1, .slice B1 m1 k1] from (Blk.new _ _ (by simp) _ _).below hb)
  have HB_2 := Lib.hid (below_trans HB_1.out hB)
  have hs_2 : w.heap.size ≤ w2.heap.size := HB_2.out.size
  have hz_2 : w1.heap.size + 1 ≤ w2.heap.size := (by have h := hb.size; (try simp at h); omega)
  clear hB hb xn_1 xd_1 Ka_1 HB_1
  obtain ⟨p10, p11, p12, p13, l1⟩ := Kx_2.out.use4
  go_wp2
  obtain ⟨p20, p21, p22, p23, l2⟩ := Kx_2.out.use4
  have tok0 : True := trivial
  have tok1 : True := trivial
  go_region_held3 (fun w' => w'.cell? ⟨w1.heap.size, 0, none⟩ = some (.bool b1) ∧ w'.cell? ⟨w1.heap.size, 1, none⟩ = some (.slice A1 n1 c1) ∧ w'.cell? ⟨w1.heap.size, 2, none⟩ = some (.bool d1) ∧ w'.cell? ⟨w1.heap.size, 3, none⟩ = some (.slice B1 m1 k1)) (first | (refine ⟨?_, ?_, ?_, ?_⟩ <;> (first | with_reducible assumption | ((with_reducible refine Eq.trans (cell_drew _ _) ?_); with_reducible assumption) | ((rw [cell_far4 _ _ _ _ _ _ _ _ (by omega)]); with_reducible assumption) | ((repeat rw [cell_far2 _ _ _ _ _ _ (by omega)]); with_reducible assumption) | go_keep)) | trivial | go_keep)
    (first
      | (go_at_call 87; have _t := tok0; clear _t tok0; ((with_reducible refine Calls.mono (li_rtext (IsInt.lim (k := k) (by first | exact xn_2.out | exact xn_2.out.drew_ | exact xn_2.out.alloc_ _ | exact (xn_2.out.alloc_ _).drew_) BN.out) hk) ?_)); rintro e w3 ⟨rfl, hb⟩; rw [HS1.out]; have hB := (show Below w2.heap.size w2 w3 from by first | exact hb | exact bundrew hb | exact bun hb | exact bundrew (bun hb) | exact bun (bundrew hb)); have xn_3 := Lib.hid (xn_2.out.below hB); have xd_3 := Lib.hid (xd_2.out.below hB); have Ka_3 := Lib.hid (Ka_2.out.below hB); have Kx_3 := Lib.hid (Kx_2.out.below hB); have HB_3 := Lib.hid (below_trans HB_2.out hB); have hs_3 : w.heap.size ≤ w3.heap.size := HB_3.out.size; have hz_3 : w2.heap.size + 0 ≤ w3.heap.size := (by have h := hb.size; (try simp at h); omega); clear hB hb xn_2 xd_2 Ka_2 Kx_2 HB_2 p10 p11 p12 p13 l1 p20 p21 p22 p23 l2; obtain ⟨p30, p31, p32, p33, l3⟩ := Kx_3.out.use4)
      | (go_at_call 86; have _t := tok1; clear _t tok1; ((with_reducible refine Calls.mono (rtext_any (k := k) (N := q.den) (LimI.mag (IsInt.lim (k := k) (by first | exact xd_3.out | exact xd_3.out.drew_ | exact xd_3.out.alloc_ _ | exact (xd_3.out.alloc_ _).drew_) BD.out)) hk) ?_)); rintro e w4 ⟨rfl, hb⟩; rw [HS2.out]; have hB := (show Below w3.heap.size w3 w4 from by first | exact hb | exact bundrew hb | exact bun hb | exact bundrew (bun hb) | exact bun (bundrew hb)); have xn_4 := Lib.hid (xn_3.out.below hB); have xd_4 := Lib.hid (xd_3.out.below hB); have Ka_4 := Lib.hid (Ka_3.out.below hB); have Kx_4 := Lib.hid (Kx_3.out.below hB); have HB_4 := Lib.hid (below_trans HB_3.out hB); have hs_4 : w.heap.size ≤ w4.heap.size := HB_4.out.size; have hz_4 : w3.heap.size + 0 ≤ w4.heap.size := (by have h := hb.size; (try simp at h); omega); clear hB hb xn_3 xd_3 Ka_3 Kx_3 HB_3 p30 p31 p32 p33 l3; obtain ⟨p40, p41, p42, p43, l4⟩ := Kx_4.out.use4))
  go_wp2
  go_ret
  exact ⟨by rw [HT.out]; rfl, HB_4.out⟩

theorem r_text {k : Nat} {w : World} {v : Value} {q : Rat} (h : LimQ k w v q) (hk : k ≤ 1000) (h1 : 1 ≤ k) : Calls Tryz.prog 45 #[v] w fun e w' => e = .returned (.string (textQ q)) ∧ Below w.heap.size w w' := by
  have H := h
  obtain ⟨X, Y, h, rfl⟩ := h
  obtain ⟨b, A, n, c, b', A', n', c', rfl, -, -⟩ := h.form
  by_cases hd : (ratOf X Y).den = 1
  · exact r_text1 b A n c b' A' n' c' w k _ H hk h1 hd
  · exact r_text0 b A n c b' A' n' c' w k _ H hk h1 hd
end Go.Proofs.YtglcififcldchaaGreatDoor
