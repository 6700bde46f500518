/- strings.Cut at one byte, TrimLeft at 0, Repeat of a few 0. -/
import Derived.OwnWalk
import Derived.Test.YtglcififcldchaaGreatDoorPSh
namespace Go.Proofs.YtglcififcldchaaGreatDoor
open Go.RowKit
attribute [local go_sem ↓] Go.wp_at_zero Go.wp_at_succ
set_option linter.unusedVariables false

set_option maxHeartbeats 1000000 in
theorem lcut_yes (s : ByteArray) (c : UInt8) (i : Nat) (w : World) (h : Lib.indexByte s.data.toList c = i) (hi : i < s.size) (hs : s.size ≤ 4611686018427387904) :
    Calls Tryz.prog 136 #[.string s, .string ⟨#[c]⟩] w fun e w' => e = .returned (.tuple #[.string (s.extract 0 i), .string (s.extract (i + 1) s.size), .bool true]) ∧ Below w.heap.size w w' := by
  have D : Hid (Calls Tryz.prog 152 #[.string s, .string ⟨#[c]⟩] w fun e w' => e = .returned (.int .i64 (i : Int)) ∧ w' = w) := by
    have := Tryz.stringslite_Index_one s c w
    rw [h] at this
    exact this
  have hw : IntKind.i64.wrap ((i : Int) + 1) = (i : Int) + 1 := by unfold IntKind.wrap; simp [IntKind.bits]; omega
  have g1 : (i : Int) ≥ 0 := by omega
  have g2 : (i : Int) ≤ (s.size : Int) := by omega
  have g3 : (i : Int) + 1 ≤ (s.size : Int) := by omega
  have g4 : (0 : Int) ≤ (i : Int) + 1 := by omega
  have t1 : ((i : Int)).toNat = i := by omega
  have t2 : ((i : Int) + 1).toNat = i + 1 := by omega
  clear h hi
  go_enter Tryz.func136, Tryz.ntmps136
  go_wp2_with fail
  refine D.out.mono ?_
  rintro e w1 ⟨rfl, rfl⟩
  clear D
  go_wp2
  go_region
  go_wp2
  go_ret3
  exact ⟨rfl, (Below.refl _ _).drew⟩
set_option maxHeartbeats 1000000 in
theorem lcut_no (s : ByteArray) (c : UInt8) (w : World) (h : Lib.indexByte s.data.toList c = -1) :
    Calls Tryz.prog 136 #[.string s, .string ⟨#[c]⟩] w fun e w' => e = .returned (.tuple #[.string s, .string ⟨#[]⟩, .bool false]) ∧ Below w.heap.size w w' := by
  have D : Hid (Calls Tryz.prog 152 #[.string s, .string ⟨#[c]⟩] w fun e w' => e = .returned (.int .i64 (-1)) ∧ w' = w) := by
    have := Tryz.stringslite_Index_one s c w
    rw [h] at this
    exact this
  clear h
  go_enter Tryz.func136, Tryz.ntmps136
  go_wp2_with fail
  refine D.out.mono ?_
  rintro e w1 ⟨rfl, rfl⟩
  clear D
  go_wp2
  go_ret3
  exact ⟨rfl, Below.refl _ _⟩
theorem cut_yes (s : ByteArray) (c : UInt8) (i : Nat) (w : World) (h : Lib.indexByte s.data.toList c = i) (hi : i < s.size) (hs : s.size ≤ 4611686018427387904) :
    Calls Tryz.prog 108 #[.string s, .string ⟨#[c]⟩] w fun e w' => e = .returned (.tuple #[.string (s.extract 0 i), .string (s.extract (i + 1) s.size), .bool true]) ∧ Below w.heap.size w w' := by
  have D := Lib.hid (lcut_yes s c i w h hi hs)
  clear h hi hs
  go_enter Tryz.func108, Tryz.ntmps108
  go_wp2_with fail
  refine D.out.mono ?_
  rintro e w1 ⟨rfl, hb⟩
  clear D
  go_wp2
  go_ret3
  exact ⟨rfl, hb⟩
theorem cut_no (s : ByteArray) (c : UInt8) (w : World) (h : Lib.indexByte s.data.toList c = -1) :
    Calls Tryz.prog 108 #[.string s, .string ⟨#[c]⟩] w fun e w' => e = .returned (.tuple #[.string s, .string ⟨#[]⟩, .bool false]) ∧ Below w.heap.size w w' := by
  have D := Lib.hid (lcut_no s c w h)
  clear h
  go_enter Tryz.func108, Tryz.ntmps108
  go_wp2_with fail
  refine D.out.mono ?_
  rintro e w1 ⟨rfl, hb⟩
  clear D
  go_wp2
  go_ret3
  exact ⟨rfl, hb⟩
def zeros (n : Nat) : ByteArray := ⟨(List.replicate n 48).toArray⟩
theorem zeros_cut : ∀ n, n < 65 → (⟨#[48, 48, 48, 48, 48, 48, 48, 48, 48, 48, 48, 48, 48, 48, 48, 48, 48, 48, 48, 48, 48, 48, 48, 48, 48, 48, 48, 48, 48, 48, 48, 48, 48, 48, 48, 48, 48, 48, 48, 48, 48, 48, 48, 48, 48, 48, 48, 48, 48, 48, 48, 48, 48, 48, 48, 48, 48, 48, 48, 48, 48, 48, 48, 48]⟩ : ByteArray).extract 0 n = zeros n := by
  intro n hn
  have h : ((List.range 65).all fun n => ((⟨#[48, 48, 48, 48, 48, 48, 48, 48, 48, 48, 48, 48, 48, 48, 48, 48, 48, 48, 48, 48, 48, 48, 48, 48, 48, 48, 48, 48, 48, 48, 48, 48, 48, 48, 48, 48, 48, 48, 48, 48, 48, 48, 48, 48, 48, 48, 48, 48, 48, 48, 48, 48, 48, 48, 48, 48, 48, 48, 48, 48, 48, 48, 48, 48]⟩ : ByteArray).extract 0 n).data == (zeros n).data) = true := by kernel_rfl
  have := List.all_eq_true.1 h n (List.mem_range.2 hn)
  exact ByteArray.ext (by simpa using this)
set_option maxRecDepth 100000 in
set_option maxHeartbeats 4000000 in
theorem repeat_few (n : Nat) (w : World) (h2 : 2 ≤ n) (hn : n ≤ 64) :
    Calls Tryz.prog 140 #[.string ⟨#[48]⟩, .int .i64 (n : Int)] w fun e w' => e = .returned (.string (zeros n)) ∧ Below w.heap.size w w' := by
  have M : Hid (Calls Tryz.prog 157 #[.int .u64 1, .int .u64 (n : Int)] w fun e w' => e = .returned (.tuple #[.int .u64 0, .int .u64 (n : Int)]) ∧ w' = w) := by
    have := Tryz.bits_Mul 1 n (by omega) (by omega) w
    rw [Nat.one_mul, Nat.div_eq_of_lt (by omega), Nat.mod_eq_of_lt (by omega)] at this
    exact this
  have Z := Lib.hid (zeros_cut n (by omega))
  have g0 : ¬ (n : Int) = 0 := by omega
  have g1 : ¬ (n : Int) = 1 := by omega
  have g2 : ¬ (n : Int) < 0 := by omega
  have g3 : (n : Int) ≤ 64 := by omega
  have g4 : (n : Int) ≤ 128 := by omega
  have g5 : (n : Int) ≥ 0 := by omega
  have b0 : ((n : Int) == 0) = false := by rw [beq_eq_false_iff_ne]; omega
  have b1 : ((n : Int) == 1) = false := by rw [beq_eq_false_iff_ne]; omega
  have g6 : ¬ (n : Int) > 9223372036854775807 := by omega
  have w1 : IntKind.u64.wrap (n : Int) = (n : Int) := by unfold IntKind.wrap; simp [IntKind.bits]; omega
  have w2 : IntKind.i64.wrap (n : Int) = (n : Int) := by unfold IntKind.wrap; simp [IntKind.bits]; omega
  have t1 : ((n : Int)).toNat = n := by omega
  clear h2 hn
  go_enter Tryz.func140, Tryz.ntmps140
  go_wp2_with fail
  refine M.out.mono ?_
  rintro e w3 ⟨rfl, rfl⟩
  clear M
  go_wp2_with (refine Calls.mono (Tryz.strings_HasPrefix _ _ _) ?_; rintro e w4 ⟨rfl, rfl⟩)
  go_ret
  exact ⟨by rw [← Z.out]; rfl, Below.refl _ _⟩
end Go.Proofs.YtglcififcldchaaGreatDoor

/- Contracts of ratio: quotient, places, decimal, where the text may be a fraction's. -/
namespace Go.Proofs.YtglcififcldchaaGreatDoor
open Go.RowKit
attribute [local go_sem ↓] Go.wp_at_zero Go.wp_at_succ
set_option linter.unusedVariables false

def WrPost (K : Nat) (w w' : World) (e : Ending) (X Y : Int) (ok : Bool) : Prop := ∃ v, e = .returned (.tuple #[v, .bool ok]) ∧ LimR K w' v X Y ∧ Below w.heap.size w w'
theorem numV_lim {s : ByteArray} {K : Nat} (hs : s.size ≤ K) : numV s < 4294967296 ^ K := Nat.lt_of_lt_of_le (numV_lt s) (Nat.pow_le_pow_right (by omega) hs)
theorem intV_lim {s : ByteArray} {K : Nat} (hs : s.size ≤ K) : (intV s).natAbs < 4294967296 ^ K := by
  unfold intV
  rw [sg_abs]
  exact numV_lim (Nat.le_trans (digitsOf_size s) hs)
theorem parseI_ok (s : ByteArray) (w : World) (hs : s.size ≤ 1000) (h : intB s = true) : Calls Tryz.prog 111 #[.string s] w fun e w' => ∃ v, e = .returned (.tuple #[v, .bool true]) ∧ IsInt w' v (intV s) ∧ Below w.heap.size w w' := by
  have := str_parseI s w (by omega)
  rw [h] at this
  exact this
theorem parse_is (s : ByteArray) (w : World) (hs : s.size ≤ 1001) (h : isNumB s = true) : Calls Tryz.prog 137 #[.string s] w fun e w' => ∃ v, e = .returned (.tuple #[v, .bool true]) ∧ IsNat w' v (numV s) ∧ Below w.heap.size w w' := by
  have := str_parse s w (by omega)
  rw [h] at this
  exact this
theorem cutMinus (s : ByteArray) (w : World) (hs : s.size ≤ 1000) : Calls Tryz.prog 138 #[.string s, .string ⟨#[45]⟩] w fun e w' => e = .returned (.tuple #[.string (digitsOf s), .bool (minusB s)]) ∧ Below w.heap.size w w' := by
  refine Calls.mono (cutPrefix_any s w (by omega) (minusB s) (minusB_iff s)) ?_
  rintro e w' ⟨rfl, rfl⟩
  exact ⟨rfl, Below.refl _ _⟩
def tailZ (s : ByteArray) : ByteArray := ⟨(Lib.trimLeftB s.data.toList 48).toArray⟩
theorem tailZ_size (s : ByteArray) : (tailZ s).size ≤ s.size := by
  have : (Lib.trimLeftB s.data.toList 48).length ≤ s.data.toList.length := by
    unfold Lib.trimLeftB
    exact (List.dropWhile_sublist _).length_le
  exact (show (tailZ s).size = (Lib.trimLeftB s.data.toList 48).length from by show (Lib.trimLeftB s.data.toList 48).toArray.size = _; rw [List.size_toArray]) ▸ this
theorem trimZ (s : ByteArray) (w : World) : Calls Tryz.prog 156 #[.string s, .string ⟨#[48]⟩] w fun e w' => e = .returned (.string (tailZ s)) ∧ w' = w :=
  Tryz.strings_TrimLeft_one s 48 (by decide) w

set_option maxRecDepth 100000 in
set_option maxHeartbeats 4000000 in
theorem quot_yes (s t : ByteArray) (K : Nat) (w : World) (hs : s.size ≤ K) (ht : t.size ≤ K) (hK : K ≤ 1000) (h1 : intB s = true) (h2 : isNumB t = true) (h3 : 0 < numV t) :
    Calls Tryz.prog 109 #[.string s, .string t] w fun e w' => WrPost K w w' e (intV s) (numV t) true := by
  have HI := Lib.hid h1
  have HN := Lib.hid h2
  have HP : Hid (0 < ((numV t : Nat) : Int)) := by show 0 < _; omega
  have HS : Hid (s.size ≤ 1000) := Nat.le_trans hs hK
  have HT : Hid (t.size ≤ 1001) := Nat.le_trans ht (Nat.le_trans hK (by omega))
  have HK := Lib.hid hK
  have BN := Lib.hid (intV_lim hs)
  have BD : Hid ((numV t : Int).natAbs < 4294967296 ^ K) := numV_lim ht
  clear h1 h2 h3 hs ht hK
  go_enter Tryz.func109, Tryz.ntmps109
  go_wp2_with fail
  refine Calls.mono (parseI_ok s _ HS.out HI.out) ?_
  rintro e w1 ⟨v, rfl, h, hb⟩
  obtain ⟨b1, A1, n1, c1, rfl, -, -, h⟩ := h.form
  replace h := h.lim (k := K) BN.out
  have hB := bun (hb)
  have Kr_1 := Lib.hid (show Blk w1 (w.heap.size) 26 #[.bool false, .slice none 0 0, .bool false, .slice none 0 0] from (Blk.new _ _ (by simp) _ _).below hb)
  have n_1 := Lib.hid (h)
  have HB_1 := Lib.hid (hB)
  have hs_1 : w.heap.size ≤ w1.heap.size := HB_1.out.size
  have hz_1 : w.heap.size + 1 ≤ w1.heap.size := (by have h := hb.size; (try simp at h); omega)
  clear hB hb 
  go_wp2_with fail
  refine Calls.mono (parse_is t _ HT.out HN.out) ?_
  rintro e w2 ⟨v, rfl, h, hb⟩
  obtain ⟨A2, n2, c2, rfl, -, h⟩ := isNat_form h
  replace h := (isInt_nat h).lim (k := K) BD.out
  have hB := bun (hb)
  have n_2 := Lib.hid (n_1.out.below hB)
  have Kr_2 := Lib.hid (Kr_1.out.below hB)
  have Kn_2 := Lib.hid (show Blk w2 (w1.heap.size) 24 #[.bool b1, .slice A1 n1 c1] from (Blk.new _ _ (by simp) _ _).below hb)
  have d_2 := Lib.hid (h)
  have HB_2 := Lib.hid (below_trans HB_1.out hB)
  have hs_2 : w.heap.size ≤ w2.heap.size := HB_2.out.size
  have hz_2 : w1.heap.size + 1 ≤ w2.heap.size := (by have h := hb.size; (try simp at h); omega)
  clear hB hb n_1 Kr_1 HB_1
  obtain ⟨p10, p11, l1⟩ := Kn_2.out.use2
  go_wp2
  generalize hW : (w2.alloc (.cells #[.bool b1, .slice A1 n1 c1, .bool false, .slice A2 n2 c2] 26)) = w3
  have n_3 := Lib.hid (hW ▸ (n_2.out.alloc_ _))
  have d_3 := Lib.hid (hW ▸ (d_2.out.alloc_ _))
  have Kr_3 := Lib.hid (show Blk w3 (w.heap.size) 26 #[.bool false, .slice none 0 0, .bool false, .slice none 0 0] from by rw [← hW]; exact (Kr_2.out.alloc_ _))
  have Kn_3 := Lib.hid (show Blk w3 (w1.heap.size) 24 #[.bool b1, .slice A1 n1 c1] from by rw [← hW]; exact (Kn_2.out.alloc_ _))
  have Ka_3 := Lib.hid (show Blk w3 (w2.heap.size) 26 #[.bool b1, .slice A1 n1 c1, .bool false, .slice A2 n2 c2] from by rw [← hW]; exact Blk.new _ _ (by simp) _ _)
  have HB_3 := Lib.hid (show Below w.heap.size w w3 from by rw [← hW]; exact halloc (HB_2.out))
  have hs_3 : w.heap.size ≤ w3.heap.size := HB_3.out.size
  have hz_3 : w2.heap.size + 1 ≤ w3.heap.size := by rw [← hW]; simp
  clear hW n_2 d_2 Kr_2 Kn_2 HB_2 p10 p11 l1
  obtain ⟨p20, p21, p22, p23, l2⟩ := Ka_3.out.use4
  have tok0 : True := trivial
  go_region_held3 (fun w' => w'.cell? ⟨w2.heap.size, 0, none⟩ = some (.bool b1) ∧ w'.cell? ⟨w2.heap.size, 1, none⟩ = some (.slice A1 n1 c1) ∧ w'.cell? ⟨w2.heap.size, 2, none⟩ = some (.bool false) ∧ w'.cell? ⟨w2.heap.size, 3, none⟩ = some (.slice A2 n2 c2)) (first | (refine ⟨?_, ?_, ?_, ?_⟩ <;> (first | with_reducible assumption | ((with_reducible refine Eq.trans (cell_drew _ _) ?_); with_reducible assumption) | ((rw [cell_far4 _ _ _ _ _ _ _ _ (by omega)]); with_reducible assumption) | ((repeat rw [cell_far2 _ _ _ _ _ _ (by omega)]); with_reducible assumption) | go_keep)) | trivial | go_keep)
    (first
      | (go_at_call 16; have _t := tok0; clear _t tok0; ((with_reducible refine Calls.mono (may_true _ _ _ _ _ _ _ _ _ K (numV t) (by first | exact d_3.out | exact d_3.out.drew_ | exact d_3.out.alloc_ _ | exact (d_3.out.alloc_ _).drew_) (by have := HK.out; omega) HP.out) ?_)); rintro e w4 ⟨rfl, hb⟩; have hB := (show Below w3.heap.size w3 w4 from by first | exact hb | exact bundrew hb | exact bun hb | exact bundrew (bun hb) | exact bun (bundrew hb)); have n_4 := Lib.hid (n_3.out.below hB); have d_4 := Lib.hid (d_3.out.below hB); have Kr_4 := Lib.hid (Kr_3.out.below hB); have Kn_4 := Lib.hid (Kn_3.out.below hB); have Ka_4 := Lib.hid (Ka_3.out.below hB); have HB_4 := Lib.hid (below_trans HB_3.out hB); have hs_4 : w.heap.size ≤ w4.heap.size := HB_4.out.size; have hz_4 : w3.heap.size + 0 ≤ w4.heap.size := (by have h := hb.size; (try simp at h); omega); clear hB hb n_3 d_3 Kr_3 Kn_3 Ka_3 HB_3 p20 p21 p22 p23 l2; obtain ⟨p30, p31, p32, p33, l3⟩ := Ka_4.out.use4; obtain ⟨p40, p41, p42, p43, l4⟩ := Kr_4.out.use4; obtain ⟨r40, r41, r42, r43⟩ := Kr_4.out.into4))
  go_wp2
  obtain ⟨WF, hWF⟩ : ∃ W, W = ((((w4.setCell ⟨w.heap.size, 0, none⟩ (.bool b1)).setCell ⟨w.heap.size, 1, none⟩ (.slice A1 n1 c1)).setCell ⟨w.heap.size, 2, none⟩ (.bool false)).setCell ⟨w.heap.size, 3, none⟩ (.slice A2 n2 c2)) := ⟨_, rfl⟩
  rw [← hWF]
  have kq : Blk WF (w.heap.size) 26 #[.bool b1, .slice A1 n1 c1, .bool false, .slice A2 n2 c2] := by rw [hWF]; exact Kr_4.out.own4
  have hBF : Below w.heap.size w WF := by rw [hWF]; exact Below.set4 (HB_4.out) (by first | omega | (simp; omega) | simp)
  have f1 : LimI K WF (.agg #[.bool b1, .slice A1 n1 c1]) (intV s) := by rw [hWF]; exact n_4.out.other4 Kr_4.out nu nu nu nu
  have f2 : LimI K WF (.agg #[.bool false, .slice A2 n2 c2]) (numV t) := by rw [hWF]; exact d_4.out.other4 Kr_4.out nu nu nu nu
  have HE : Hid (WrPost K w WF (Ending.returned (.tuple #[.agg #[.bool b1, .slice A1 n1 c1, .bool false, .slice A2 n2 c2], .bool true])) (intV s) (numV t) true) := ⟨_, rfl, limR_mk f1 f2, hBF⟩
  obtain ⟨e0, e1, e2, e3⟩ := kq.cells4
  clear hWF
  exact bodyPost_ret (v := .tuple #[.agg #[.bool b1, .slice A1 n1 c1, .bool false, .slice A2 n2 c2], .bool true]) (by simp [results, Tryz.results109, go_sem, e0, e1, e2, e3] <;> omega) rfl HE.out

set_option maxRecDepth 100000 in
set_option maxHeartbeats 2000000 in
theorem places_some (s : ByteArray) (w : World) (hs : s.size ≤ 1000) (h1 : 0 < (tailZ s).size) (h2 : isNumB (tailZ s) = true) :
    Calls Tryz.prog 139 #[.string s] w fun e w' => ParsePost w w' e true (numV (tailZ s)) := by
  have D := fun w => Lib.hid (trimZ s w)
  have E := Lib.hid (parse_is (tailZ s) w (by have := tailZ_size s; omega) h2)
  generalize tailZ s = T at *
  have hT1 : (T.toList == []) = false := by
    rw [beq_eq_false_iff_ne]
    intro h
    have h3 : T.toList.length = 0 := by rw [h]; rfl
    rw [Lib.toList_data, ← Lib.size_eq] at h3
    omega
  clear h1 h2
  go_enter Tryz.func139, Tryz.ntmps139
  go_wp2_with fail
  refine (D _).out.mono ?_
  rintro e w1 ⟨rfl, rfl⟩
  clear D
  go_wp2_with fail
  refine E.out.mono ?_
  rintro e w2 ⟨v, rfl, h, hb⟩
  obtain ⟨A1, n1, c1, rfl, -, h⟩ := isNat_form h
  go_wp2
  go_ret2
  exact ⟨_, rfl, h, hb⟩

set_option maxRecDepth 100000 in
set_option maxHeartbeats 4000000 in
theorem dec_yes (hd t : ByteArray) (n P K : Nat) (w : World) (hh : hd.size ≤ K) (ht : t.size = n) (hn : n < K) (hK : K ≤ 1000) (h1 : isNumB (digitsOf hd) = true) (hPl : ∀ w, Calls Tryz.prog 139 #[.string t] w fun e w' => ParsePost w w' e true P) (hP : P < 4294967296 ^ K) (hR : ∀ w, Calls Tryz.prog 140 #[.string ⟨#[48]⟩, .int .i64 (n : Int)] w fun e w' => e = .returned (.string (zeros n)) ∧ Below w.heap.size w w') (hz : isNumB (⟨#[49]⟩ ++ zeros n) = true) (hv : numV (⟨#[49]⟩ ++ zeros n) = 10 ^ n) :
    Calls Tryz.prog 110 #[.string hd, .string t] w fun e w' => WrPost (K + K + 1) w w' e (sg (minusB hd) (numV (digitsOf hd) * 10 ^ n + P)) ((10 ^ n : Nat) : Int) true := by
  have HM := fun w => Lib.hid (cutMinus hd w (by omega))
  have hdh := digitsOf_size hd
  have HN := fun w => Lib.hid (parse_is (digitsOf hd) w (by omega) h1)
  have BN := Lib.hid (numV_lim (s := digitsOf hd) (K := K) (by omega))
  have hzs : (zeros n).size = n := by show (List.replicate n (48 : UInt8)).toArray.size = n; simp
  have hsz : (⟨#[49]⟩ ++ zeros n : ByteArray).size = n + 1 := by rw [ByteArray.size_append, hzs]; show 1 + n = _; omega
  have hcat := fun wq => run_string_add (P := Tryz.prog) wq ⟨#[49]⟩ (zeros n) (by show 1 ≤ _; omega) (by omega)
  have HZ := fun w => Lib.hid (parse_is (⟨#[49]⟩ ++ zeros n) w (by omega) hz)
  have B10 : 10 ^ n < 4294967296 ^ K := Nat.lt_of_le_of_lt (Nat.pow_le_pow_left (show 10 ≤ 4294967296 by omega) n) (Nat.pow_lt_pow_right (by omega) (by omega))
  rw [hv] at HZ
  have HPl := fun w => Lib.hid (hPl w)
  have HR := fun w => Lib.hid (hR w)
  generalize numV (digitsOf hd) = N at *
  generalize hT : 10 ^ n = T at *
  have BM : Hid (N * T < 4294967296 ^ (K + K)) := by
    show _ < _
    have : (4294967296 : Nat) ^ (K + K) = 4294967296 ^ K * 4294967296 ^ K := by rw [← Nat.pow_add]
    rw [this]
    exact Nat.mul_lt_mul'' BN.out B10
  have BA : Hid (N * T + P < 4294967296 ^ (K + K + 1)) := by
    show _ < _
    have e1 : (4294967296 : Nat) ^ K ≤ 4294967296 ^ (K + K) := Nat.pow_le_pow_right (by omega) (by omega)
    have e2 : (4294967296 : Nat) ^ (K + K + 1) = 4294967296 ^ (K + K) * 4294967296 := Nat.pow_succ ..
    have := BM.out
    rw [e2]
    generalize (4294967296 : Nat) ^ (K + K) = b at *
    generalize (4294967296 : Nat) ^ K = c at *
    omega
  have BP := Lib.hid hP
  have BT := Lib.hid B10
  generalize (⟨#[49]⟩ ++ zeros n : ByteArray) = Z1 at *
  generalize zeros n = Z0 at *
  generalize digitsOf hd = D0 at *
  generalize minusB hd = mb at *
  have HK := Lib.hid hK
  clear h1 hz hv hP hPl hR B10 hsz hzs hdh hT hh hn hK
  go_enter Tryz.func110, Tryz.ntmps110
  go_wp2_with fail
  refine Calls.mono ((HM _).out) ?_
  rintro e w1 ⟨rfl, hb⟩
  have hB := bun (hb)
  have Kr_1 := Lib.hid (show Blk w1 (w.heap.size) 26 #[.bool false, .slice none 0 0, .bool false, .slice none 0 0] from (Blk.new _ _ (by simp) _ _).below hb)
  have HB_1 := Lib.hid (hB)
  have hs_1 : w.heap.size ≤ w1.heap.size := HB_1.out.size
  have hz_1 : w.heap.size + 1 ≤ w1.heap.size := (by have h := hb.size; (try simp at h); omega)
  clear hB hb 
  go_wp2_with fail
  refine Calls.mono ((HN _).out) ?_
  rintro e w2 ⟨v, rfl, h, hb⟩
  obtain ⟨A2, n2, c2, rfl, -, h⟩ := isNat_form h
  replace h := h.lim (k := K) BN.out
  have hB := hb
  have Kr_2 := Lib.hid (Kr_1.out.below hB)
  have n_2 := Lib.hid (h)
  have HB_2 := Lib.hid (below_trans HB_1.out hB)
  have hs_2 : w.heap.size ≤ w2.heap.size := HB_2.out.size
  have hz_2 : w1.heap.size + 0 ≤ w2.heap.size := (by have h := hb.size; (try simp at h); omega)
  clear hB hb Kr_1 HB_1
  go_wp2_with fail
  refine Calls.mono ((HPl _).out) ?_
  rintro e w3 ⟨v, rfl, h, hb⟩
  obtain ⟨A3, n3, c3, rfl, -, h⟩ := isNat_form h
  replace h := h.lim (k := K) BP.out
  have hB := hb
  have n_3 := Lib.hid (n_2.out.below hB)
  have Kr_3 := Lib.hid (Kr_2.out.below hB)
  have p_3 := Lib.hid (h)
  have HB_3 := Lib.hid (below_trans HB_2.out hB)
  have hs_3 : w.heap.size ≤ w3.heap.size := HB_3.out.size
  have hz_3 : w2.heap.size + 0 ≤ w3.heap.size := (by have h := hb.size; (try simp at h); omega)
  clear hB hb n_2 Kr_2 HB_2
  obtain ⟨p10, p11, p12, p13, l1⟩ := Kr_3.out.use4
  go_wp2_with fail
  refine Calls.mono ((HR _).out) ?_
  rintro e w4 ⟨rfl, hb⟩
  have hB := hb
  have n_4 := Lib.hid (n_3.out.below hB)
  have p_4 := Lib.hid (p_3.out.below hB)
  have Kr_4 := Lib.hid (Kr_3.out.below hB)
  have HB_4 := Lib.hid (below_trans HB_3.out hB)
  have hs_4 : w.heap.size ≤ w4.heap.size := HB_4.out.size
  have hz_4 : w3.heap.size + 0 ≤ w4.heap.size := (by have h := hb.size; (try simp at h); omega)
  clear hB hb n_3 p_3 Kr_3 HB_3 p10 p11 p12 p13 l1
  go_wp2_with fail
  refine Calls.mono ((HZ _).out) ?_
  rintro e w5 ⟨v, rfl, h, hb⟩
  obtain ⟨A5, n5, c5, rfl, -, h⟩ := isNat_form h
  replace h := h.lim (k := K) BT.out
  have hB := hb
  have n_5 := Lib.hid (n_4.out.below hB)
  have p_5 := Lib.hid (p_4.out.below hB)
  have Kr_5 := Lib.hid (Kr_4.out.below hB)
  have s_5 := Lib.hid (h)
  have HB_5 := Lib.hid (below_trans HB_4.out hB)
  have hs_5 : w.heap.size ≤ w5.heap.size := HB_5.out.size
  have hz_5 : w4.heap.size + 0 ≤ w5.heap.size := (by have h := hb.size; (try simp at h); omega)
  clear hB hb n_4 p_4 Kr_4 HB_4
  go_wp2_with fail
  refine Calls.mono (lim_mul n_5.out s_5.out (by have := HK.out; omega) (by have := HK.out; omega)) ?_
  rintro e w6 ⟨v, rfl, h, hb⟩
  obtain ⟨A6, n6, c6, rfl, -, h⟩ := isNat_form h
  replace h := h.lim (k := K + K) BM.out
  have hB := hb
  have p_6 := Lib.hid (p_5.out.below hB)
  have s_6 := Lib.hid (s_5.out.below hB)
  have Kr_6 := Lib.hid (Kr_5.out.below hB)
  have m_6 := Lib.hid (h)
  have HB_6 := Lib.hid (below_trans HB_5.out hB)
  have hs_6 : w.heap.size ≤ w6.heap.size := HB_6.out.size
  have hz_6 : w5.heap.size + 0 ≤ w6.heap.size := (by have h := hb.size; (try simp at h); omega)
  clear hB hb n_5 p_5 s_5 Kr_5 HB_5
  go_wp2_with fail
  refine Calls.mono (lim_add m_6.out p_6.out (by have := HK.out; omega) (by have := HK.out; omega)) ?_
  rintro e w7 ⟨v, rfl, h, hb⟩
  obtain ⟨A7, n7, c7, rfl, -, h⟩ := isNat_form h
  replace h := h.lim (k := K + K + 1) BA.out
  have hB := hb
  have s_7 := Lib.hid (s_6.out.below hB)
  have Kr_7 := Lib.hid (Kr_6.out.below hB)
  have q_7 := Lib.hid (h)
  have HB_7 := Lib.hid (below_trans HB_6.out hB)
  have hs_7 : w.heap.size ≤ w7.heap.size := HB_7.out.size
  have hz_7 : w6.heap.size + 0 ≤ w7.heap.size := (by have h := hb.size; (try simp at h); omega)
  clear hB hb p_6 s_6 m_6 Kr_6 HB_6
  go_upto_region 8 with fail
  generalize hW : (w7.alloc (.cells #[.bool mb, .slice A7 n7 c7] 24)) = w8
  have s_8 := Lib.hid (hW ▸ (s_7.out.alloc_ _))
  have q_8 := Lib.hid (hW ▸ (q_7.out.alloc_ _))
  have Kr_8 := Lib.hid (show Blk w8 (w.heap.size) 26 #[.bool false, .slice none 0 0, .bool false, .slice none 0 0] from by rw [← hW]; exact (Kr_7.out.alloc_ _))
  have Ku_8 := Lib.hid (show Blk w8 (w7.heap.size) 24 #[.bool mb, .slice A7 n7 c7] from by rw [← hW]; exact Blk.new _ _ (by simp) _ _)
  have HB_8 := Lib.hid (show Below w.heap.size w w8 from by rw [← hW]; exact halloc (HB_7.out))
  have hs_8 : w.heap.size ≤ w8.heap.size := HB_8.out.size
  have hz_8 : w7.heap.size + 1 ≤ w8.heap.size := by rw [← hW]; simp
  clear hW s_7 q_7 Kr_7 HB_7
  obtain ⟨p20, p21, l2⟩ := Ku_8.out.use2
  obtain ⟨p30, p31, p32, p33, l3⟩ := Kr_8.out.use4
  obtain ⟨r30, r31, r32, r33⟩ := Kr_8.out.into4
  go_wp2
  obtain ⟨WF, hWF⟩ : ∃ W, W = ((((w8.setCell ⟨w.heap.size, 0, none⟩ (.bool mb)).setCell ⟨w.heap.size, 1, none⟩ (.slice A7 n7 c7)).setCell ⟨w.heap.size, 2, none⟩ (.bool false)).setCell ⟨w.heap.size, 3, none⟩ (.slice A5 n5 c5)) := ⟨_, rfl⟩
  rw [← hWF]
  have kq : Blk WF (w.heap.size) 26 #[.bool mb, .slice A7 n7 c7, .bool false, .slice A5 n5 c5] := by rw [hWF]; exact Kr_8.out.own4
  have hBF : Below w.heap.size w WF := by rw [hWF]; exact Below.set4 (HB_8.out) (by first | omega | (simp; omega) | simp)
  have f1 : Lim (K + K + 1) WF (.slice A7 n7 c7) (N * T + P) := by rw [hWF]; exact q_8.out.other4 Kr_8.out nu nu nu nu
  have f2 : Lim K WF (.slice A5 n5 c5) T := by rw [hWF]; exact s_8.out.other4 Kr_8.out nu nu nu nu
  have HE : Hid (WrPost (K + K + 1) w WF (Ending.returned (.tuple #[.agg #[.bool mb, .slice A7 n7 c7, .bool false, .slice A5 n5 c5], .bool true])) (sg mb (N * T + P)) (T : Int) true) := ⟨_, rfl, limR_mk (limI_mk f1) (limI_mk (b := false) (f2.more (by omega))), hBF⟩
  obtain ⟨e0, e1, e2, e3⟩ := kq.cells4
  clear hWF
  exact bodyPost_ret (v := .tuple #[.agg #[.bool mb, .slice A7 n7 c7, .bool false, .slice A5 n5 c5], .bool true]) (by simp [results, Tryz.results110, go_sem, e0, e1, e2, e3] <;> omega) rfl HE.out
end Go.Proofs.YtglcififcldchaaGreatDoor
