/- Contracts of the document's own fractions: decimal. -/
import Derived.Test.YtglcififcldchaaGreatDoorPRl
import Derived.Test.YtglcififcldchaaGreatDoorPNatE
namespace Go.Proofs.YtglcififcldchaaGreatDoor
open Go.RowKit
attribute [local go_sem ↓] Go.wp_at_zero Go.wp_at_succ
set_option linter.unusedVariables false

theorem lim_lit32 (x : Nat) (hx : x < 4294967296) (w : World) : Lim 1 (w.alloc (.cells #[.int .u32 (x : Nat)] 86)) (.slice (some ⟨w.heap.size, 0, none⟩) 1 1) x := by
  have h : Own .u32 86 (w.alloc (.cells #[.int .u32 (x : Nat)] 86)) w.heap.size (.slice (some ⟨w.heap.size, 0, none⟩) 1 1) 1 (fun _ => x) := World.ownsRow_lit w _ 1 (Nat.le_refl _) (by simp only [maxLen]; omega) rfl
  exact ⟨_, 1, 1, fun _ => x, rfl, Nat.le_refl _, h.rd_, fun _ _ => hx, Nat.le_refl _, by simp [num]⟩
theorem lim_litG (w : World) (g : Nat) (hg : g = w.heap.size) (d : Nat) (x : Int) (hx : x = d) (hd : d < 4294967296) : Lim 1 (w.alloc (.cells #[.int .u32 x] 86)) (.slice (some ⟨g, 0, none⟩) 1 1) d := by
  subst hg hx
  exact lim_lit32 d hd w
theorem dec_lim {N K j D : Nat} (h : N < 4294967296 ^ K) (hd : D < 10 ^ j) : N * 10 ^ j + D < 4294967296 ^ (K + j) := by
  have h1 : (N + 1) * 10 ^ j ≤ 4294967296 ^ K * 4294967296 ^ j := Nat.mul_le_mul (by omega) (Nat.pow_le_pow_left (by decide) _)
  rw [← Nat.pow_add, Nat.add_mul] at h1
  omega
theorem ten_lim (j : Nat) : 10 ^ j < 4294967296 ^ (j + 1) := Nat.lt_of_le_of_lt (Nat.pow_le_pow_left (by decide) j) (Nat.pow_lt_pow_right (by decide) (Nat.lt_succ_self j))
def DcInv (w wr : World) (vn vd : Value) (K N j : Nat) (f : Nat → Nat) : Prop :=
  Lim (K + j) wr vn (N * 10 ^ j + dval f j) ∧ Lim (j + 1) wr vd (10 ^ j) ∧ (∀ q, q < j → 48 ≤ f q ∧ f q ≤ 57) ∧ Below w.heap.size w wr
theorem lq_divInt {k : Nat} {w : World} {b : Bool} {m m' : Value} {X D : Nat} (h : Lim k w m X) (h' : Lim k w m' D) (hD : 0 < D) : LimQ k w (.agg #[.bool b, m, .bool false, m']) (Rat.divInt (sg b X) (D : Int)) :=
  ⟨sg b X, sg false D, limR_mk (limI_mk h) (limI_mk h'), by
    have e : sg false D = (D : Int) := rfl
    rw [e]
    unfold ratOf
    rw [if_pos (by omega)]⟩
theorem dg_bt {t : ByteArray} : Dg t.data.toList ↔ ∀ q, q < t.size → 48 ≤ bt t q ∧ bt t q ≤ 57 := by
  constructor
  · intro h q hq
    rw [Lib.size_eq] at hq
    have : bt t q = (t.data.toList[q]).toNat := by unfold bt; rw [List.getD_eq_getElem?_getD, List.getElem?_eq_getElem hq]; rfl
    rw [this]
    exact h _ (List.getElem_mem hq)
  · intro h c hc
    obtain ⟨q, hq, rfl⟩ := List.getElem_of_mem hc
    have := h q (by rw [Lib.size_eq]; exact hq)
    have e : bt t q = (t.data.toList[q]).toNat := by unfold bt; rw [List.getD_eq_getElem?_getD, List.getElem?_eq_getElem hq]; rfl
    rwa [e] at this
theorem tail_bt {s : ByteArray} {i : Nat} (hi : i < s.size) : (s.extract (i + 1) s.size).size = s.size - (i + 1) ∧ ∀ q, q < s.size - (i + 1) → bt (s.extract (i + 1) s.size) q = bt s (i + 1 + q) := by
  refine ⟨by rw [ByteArray.size_extract]; omega, fun q hq => bt_extract s (i + 1) s.size q (Nat.le_refl _) (by omega)⟩
def RdPost (w w' : World) (e : Ending) (D : Prop) (q : Rat) : Prop := (D → RatOfPost w w' e q true) ∧ (¬ D → RatOfPost w w' e 0 false)

set_option maxRecDepth 100000 in
set_option maxHeartbeats 4000000 in
theorem rdec_no_f (s : ByteArray) (i N : Nat) (w : World) (hs : s.size ≤ 1000) (hi0 : 0 < i) (hi : i < s.size) (hz : (((s[0]'(by omega)).toNat : Int) == 45) = false) (HN : ∀ w, Calls Tryz.prog 80 #[.string (s.extract 0 i)] w fun e w' => ParsePost w w' e false N)  :
    Calls Tryz.prog 78 #[.string s, .int .i64 (i : Int)] w fun e w' => RatOfPost w w' e 0 false := by
  have HP := fun w => Lib.hid (HN w)
  have he : ((s.extract 0 i).size : Int) ≤ 1000 := by rw [ByteArray.size_extract]; omega
  clear HN
  go_enter Tryz.func78, Tryz.ntmps78
  go_wp2_with fail
  refine Calls.mono ((HP _).out) ?_
  rintro e w1 ⟨v, rfl, h, hb⟩
  obtain ⟨A1, n1, c1, rfl, -, h⟩ := isNat_form h
  have hB := bun (hb)
  have Kr_1 := Lib.hid (show Blk w1 (w.heap.size) 26 #[.bool false, .slice none 0 0, .bool false, .slice none 0 0] from (Blk.new _ _ (by simp) _ _).below hb)
  have n_1 := Lib.hid (h)
  have HB_1 := Lib.hid (hB)
  have hs_1 : w.heap.size ≤ w1.heap.size := HB_1.out.size
  have hz_1 : w.heap.size + 1 ≤ w1.heap.size := (by have h := hb.size; (try simp at h); omega)
  clear hB hb 
  go_wp2_with fail
  refine Calls.mono (rzero_any _) ?_
  rintro e w2 ⟨v, rfl, h, hb⟩
  obtain ⟨b2, A2, n2, c2, d2, B2, m2, k2, rfl, -, -, -, h1, h2⟩ := h.form
  have hB := hb
  have Kr_2 := Lib.hid (Kr_1.out.below hB)
  have z_2 := Lib.hid (h1)
  have z2_2 := Lib.hid (h2)
  have HB_2 := Lib.hid (below_trans HB_1.out hB)
  have hs_2 : w.heap.size ≤ w2.heap.size := HB_2.out.size
  have hz_2 : w1.heap.size + 0 ≤ w2.heap.size := (by have h := hb.size; (try simp at h); omega)
  clear hB hb n_1 Kr_1 HB_1
  obtain ⟨p10, p11, p12, p13, l1⟩ := Kr_2.out.use4
  obtain ⟨r10, r11, r12, r13⟩ := Kr_2.out.into4
  go_wp2
  obtain ⟨WF, hWF⟩ : ∃ W, W = ((((w2.setCell ⟨w.heap.size, 0, none⟩ (.bool b2)).setCell ⟨w.heap.size, 1, none⟩ (.slice A2 n2 c2)).setCell ⟨w.heap.size, 2, none⟩ (.bool d2)).setCell ⟨w.heap.size, 3, none⟩ (.slice B2 m2 k2)) := ⟨_, rfl⟩
  rw [← hWF]
  have kq : Blk WF (w.heap.size) 26 #[.bool b2, .slice A2 n2 c2, .bool d2, .slice B2 m2 k2] := by rw [hWF]; exact Kr_2.out.own4
  have hBF : Below w.heap.size w WF := by rw [hWF]; exact Below.set4 (HB_2.out) (by first | omega | (simp; omega) | simp)
  have f1 : IsInt WF (.agg #[.bool b2, .slice A2 n2 c2]) (0 : Rat).num := by rw [hWF]; exact z_2.out.other4 Kr_2.out nu nu nu nu
  have f2 : IsInt WF (.agg #[.bool d2, .slice B2 m2 k2]) ((0 : Rat).den : Int) := by rw [hWF]; exact z2_2.out.other4 Kr_2.out nu nu nu nu
  have HE : Hid (RatOfPost w WF (Ending.returned (.tuple #[.agg #[.bool b2, .slice A2 n2 c2, .bool d2, .slice B2 m2 k2], .bool false])) 0 false) := ⟨_, rfl, ⟨_, _, _, _, rfl, f1, f2⟩, hBF⟩
  obtain ⟨e0, e1, e2, e3⟩ := kq.cells4
  clear hWF
  exact bodyPost_ret (v := .tuple #[.agg #[.bool b2, .slice A2 n2 c2, .bool d2, .slice B2 m2 k2], .bool false]) (by simp [results, Tryz.results78, go_sem, e0, e1, e2, e3] <;> omega) rfl HE.out

set_option maxRecDepth 100000 in
set_option maxHeartbeats 4000000 in
theorem rdec_end_f (s : ByteArray) (i N : Nat) (w : World) (hs : s.size ≤ 1000) (hi0 : 0 < i) (hi : i < s.size) (hz : (((s[0]'(by omega)).toNat : Int) == 45) = false) (HN : ∀ w, Calls Tryz.prog 80 #[.string (s.extract 0 i)] w fun e w' => ParsePost w w' e true N) (hn : i + 1 = s.size) :
    Calls Tryz.prog 78 #[.string s, .int .i64 (i : Int)] w fun e w' => RatOfPost w w' e 0 false := by
  have HP := fun w => Lib.hid (HN w)
  have he : ((s.extract 0 i).size : Int) ≤ 1000 := by rw [ByteArray.size_extract]; omega
  clear HN
  have hq : ((i : Int) + 1 == (s.size : Int)) = true := by rw [beq_iff_eq]; omega
  go_enter Tryz.func78, Tryz.ntmps78
  go_wp2_with fail
  refine Calls.mono ((HP _).out) ?_
  rintro e w1 ⟨v, rfl, h, hb⟩
  obtain ⟨A1, n1, c1, rfl, -, h⟩ := isNat_form h
  have hB := bun (hb)
  have Kr_1 := Lib.hid (show Blk w1 (w.heap.size) 26 #[.bool false, .slice none 0 0, .bool false, .slice none 0 0] from (Blk.new _ _ (by simp) _ _).below hb)
  have n_1 := Lib.hid (h)
  have HB_1 := Lib.hid (hB)
  have hs_1 : w.heap.size ≤ w1.heap.size := HB_1.out.size
  have hz_1 : w.heap.size + 1 ≤ w1.heap.size := (by have h := hb.size; (try simp at h); omega)
  clear hB hb 
  go_wp2_with fail
  refine Calls.mono (rzero_any _) ?_
  rintro e w2 ⟨v, rfl, h, hb⟩
  obtain ⟨b2, A2, n2, c2, d2, B2, m2, k2, rfl, -, -, -, h1, h2⟩ := h.form
  have hB := hb
  have Kr_2 := Lib.hid (Kr_1.out.below hB)
  have z_2 := Lib.hid (h1)
  have z2_2 := Lib.hid (h2)
  have HB_2 := Lib.hid (below_trans HB_1.out hB)
  have hs_2 : w.heap.size ≤ w2.heap.size := HB_2.out.size
  have hz_2 : w1.heap.size + 0 ≤ w2.heap.size := (by have h := hb.size; (try simp at h); omega)
  clear hB hb n_1 Kr_1 HB_1
  obtain ⟨p10, p11, p12, p13, l1⟩ := Kr_2.out.use4
  obtain ⟨r10, r11, r12, r13⟩ := Kr_2.out.into4
  go_wp2
  obtain ⟨WF, hWF⟩ : ∃ W, W = ((((w2.setCell ⟨w.heap.size, 0, none⟩ (.bool b2)).setCell ⟨w.heap.size, 1, none⟩ (.slice A2 n2 c2)).setCell ⟨w.heap.size, 2, none⟩ (.bool d2)).setCell ⟨w.heap.size, 3, none⟩ (.slice B2 m2 k2)) := ⟨_, rfl⟩
  rw [← hWF]
  have kq : Blk WF (w.heap.size) 26 #[.bool b2, .slice A2 n2 c2, .bool d2, .slice B2 m2 k2] := by rw [hWF]; exact Kr_2.out.own4
  have hBF : Below w.heap.size w WF := by rw [hWF]; exact Below.set4 (HB_2.out) (by first | omega | (simp; omega) | simp)
  have f1 : IsInt WF (.agg #[.bool b2, .slice A2 n2 c2]) (0 : Rat).num := by rw [hWF]; exact z_2.out.other4 Kr_2.out nu nu nu nu
  have f2 : IsInt WF (.agg #[.bool d2, .slice B2 m2 k2]) ((0 : Rat).den : Int) := by rw [hWF]; exact z2_2.out.other4 Kr_2.out nu nu nu nu
  have HE : Hid (RatOfPost w WF (Ending.returned (.tuple #[.agg #[.bool b2, .slice A2 n2 c2, .bool d2, .slice B2 m2 k2], .bool false])) 0 false) := ⟨_, rfl, ⟨_, _, _, _, rfl, f1, f2⟩, hBF⟩
  obtain ⟨e0, e1, e2, e3⟩ := kq.cells4
  clear hWF
  exact bodyPost_ret (v := .tuple #[.agg #[.bool b2, .slice A2 n2 c2, .bool d2, .slice B2 m2 k2], .bool false]) (by simp [results, Tryz.results78, go_sem, e0, e1, e2, e3] <;> omega) rfl HE.out

set_option maxRecDepth 100000 in
set_option maxHeartbeats 4000000 in
theorem rdec_in_f (s : ByteArray) (i N : Nat) (w : World) (hs : s.size ≤ 1000) (hi0 : 0 < i) (hi : i < s.size) (hz : (((s[0]'(by omega)).toNat : Int) == 45) = false) (HN : ∀ w, Calls Tryz.prog 80 #[.string (s.extract 0 i)] w fun e w' => ParsePost w w' e true N) (hn : i + 1 < s.size) (K : Nat) (hNK : N < 4294967296 ^ K) (hKK : K ≤ 1000) :
    Calls Tryz.prog 78 #[.string s, .int .i64 (i : Int)] w fun e w' => RdPost w w' e (Dg (s.extract (i + 1) s.size).data.toList) (Rat.divInt (sg false (N * 10 ^ (s.size - (i + 1)) + lv (s.extract (i + 1) s.size).data.toList)) ((10 ^ (s.size - (i + 1)) : Nat) : Int)) := by
  have HP := fun w => Lib.hid (HN w)
  have he : ((s.extract 0 i).size : Int) ≤ 1000 := by rw [ByteArray.size_extract]; omega
  clear HN
  have hq : ((i : Int) + 1 == (s.size : Int)) = false := by rw [beq_eq_false_iff_ne]; omega
  have HNK := Lib.hid hNK
  have HKK := Lib.hid hKK
  clear hNK hKK
  go_enter Tryz.func78, Tryz.ntmps78
  go_wp2_with fail
  refine Calls.mono ((HP _).out) ?_
  rintro e w1 ⟨v, rfl, h, hb⟩
  obtain ⟨A1, n1, c1, rfl, -, h⟩ := isNat_form h
  have hB := bun (hb)
  have Kr_1 := Lib.hid (show Blk w1 (w.heap.size) 26 #[.bool false, .slice none 0 0, .bool false, .slice none 0 0] from (Blk.new _ _ (by simp) _ _).below hb)
  have n_1 := Lib.hid (h)
  have HB_1 := Lib.hid (hB)
  have hs_1 : w.heap.size ≤ w1.heap.size := HB_1.out.size
  have hz_1 : w.heap.size + 1 ≤ w1.heap.size := (by have h := hb.size; (try simp at h); omega)
  clear hB hb 
  have NL := Lib.hid (IsNat.lim (k := K) n_1.out HNK.out)
  have TB := Lib.hid (tail_bt hi)
  obtain ⟨f, hf⟩ : ∃ f : Nat → Nat, f = fun q => bt s (i + 1 + q) := ⟨_, rfl⟩
  have HF := Lib.hid hf
  clear n_1 hf hz he
  go_wp2
  go_loopw [8, 10, 11] (fun v8 v10 v11 wr => ∃ (k j : Nat), k = i + 1 + j ∧ k ≤ s.size ∧ v11 = .int .i64 (k : Nat) ∧ DcInv w1 wr v8 v10 K N j f) (fun _ _ v11 _ => s.size - (intOf v11).toNat)
  case atStart => exact ⟨i + 1, 0, rfl, by omega, by simp, by rw [Nat.pow_zero, Nat.mul_one]; exact (NL.out.alloc_ _), lim_lit32 1 (by decide) w1, fun q hq => absurd hq (by omega), below_new w1 _⟩
  case round =>
    obtain ⟨k, j, hkj, hk, rfl, hinv⟩ := hrel
    have HI := Lib.hid hinv
    have hfk : f j = bt s k := by rw [HF.out, hkj]
    have HKJ := Lib.hid hkj
    clear hinv hkj
    by_cases hlt : k < s.size
    · have ek := bt_get s k hlt
      by_cases hbad : s[k].toNat < 48 ∨ 57 < s[k].toNat
      · have HND : Hid (¬ Dg (s.extract (i + 1) s.size).data.toList) := by
          show ¬ _
          rw [dg_bt, TB.out.1]
          intro h
          have hkj := HKJ.out
          have h1 := h j (by omega)
          rw [TB.out.2 j (by omega), ← hkj, ek] at h1
          omega
        have Kr_2 := Lib.hid (Kr_1.out.below HI.out.2.2.2)
        have HB_2 := Lib.hid (below_trans HB_1.out HI.out.2.2.2)
        obtain ⟨w2, rfl⟩ : ∃ x, x = wr := ⟨_, rfl⟩
        have hs_2 : w.heap.size ≤ w2.heap.size := HB_2.out.size
        have hz_2 : w.heap.size + 1 ≤ w2.heap.size := by have := HI.out.2.2.2.size; omega
        clear ek HI hfk Kr_1 HB_1
        rcases hbad with hlo | hhi
        · have hg4 : (s[k].toNat : Int) < 48 := by omega
          go_wp2_with fail
          refine Calls.mono (rzero_any _) ?_
          rintro e w3 ⟨v, rfl, h, hb⟩
          obtain ⟨b3, A3, n3, c3, d3, B3, m3, k3, rfl, -, -, -, h1, h2⟩ := h.form
          have hB := hb
          have Kr_3 := Lib.hid (Kr_2.out.below hB)
          have z_3 := Lib.hid (h1)
          have z2_3 := Lib.hid (h2)
          have HB_3 := Lib.hid (below_trans HB_2.out hB)
          have hs_3 : w.heap.size ≤ w3.heap.size := HB_3.out.size
          have hz_3 : w2.heap.size + 0 ≤ w3.heap.size := (by have h := hb.size; (try simp at h); omega)
          clear hB hb Kr_2 HB_2
          obtain ⟨p10, p11, p12, p13, l1⟩ := Kr_3.out.use4
          obtain ⟨r10, r11, r12, r13⟩ := Kr_3.out.into4
          go_wp2
          obtain ⟨WF, hWF⟩ : ∃ W, W = ((((w3.setCell ⟨w.heap.size, 0, none⟩ (.bool b3)).setCell ⟨w.heap.size, 1, none⟩ (.slice A3 n3 c3)).setCell ⟨w.heap.size, 2, none⟩ (.bool d3)).setCell ⟨w.heap.size, 3, none⟩ (.slice B3 m3 k3)) := ⟨_, rfl⟩
          rw [← hWF]
          have kq : Blk WF (w.heap.size) 26 #[.bool b3, .slice A3 n3 c3, .bool d3, .slice B3 m3 k3] := by rw [hWF]; exact Kr_3.out.own4
          have hBF : Below w.heap.size w WF := by rw [hWF]; exact Below.set4 (HB_3.out) (by first | omega | (simp; omega) | simp)
          have f1 : IsInt WF (.agg #[.bool b3, .slice A3 n3 c3]) (0 : Rat).num := by rw [hWF]; exact z_3.out.other4 Kr_3.out nu nu nu nu
          have f2 : IsInt WF (.agg #[.bool d3, .slice B3 m3 k3]) ((0 : Rat).den : Int) := by rw [hWF]; exact z2_3.out.other4 Kr_3.out nu nu nu nu
          have HE : Hid (RdPost w WF (Ending.returned (.tuple #[.agg #[.bool b3, .slice A3 n3 c3, .bool d3, .slice B3 m3 k3], .bool false])) (Dg (s.extract (i + 1) s.size).data.toList) (Rat.divInt (sg false (N * 10 ^ (s.size - (i + 1)) + lv (s.extract (i + 1) s.size).data.toList)) ((10 ^ (s.size - (i + 1)) : Nat) : Int))) := ⟨fun h => absurd h HND.out, fun _ => ⟨_, rfl, ⟨_, _, _, _, rfl, f1, f2⟩, hBF⟩⟩
          obtain ⟨e0, e1, e2, e3⟩ := kq.cells4
          clear hWF
          exact bodyPost_ret (v := .tuple #[.agg #[.bool b3, .slice A3 n3 c3, .bool d3, .slice B3 m3 k3], .bool false]) (by simp [results, Tryz.results78, go_sem, e0, e1, e2, e3] <;> omega) rfl HE.out
        · have hg4 : (48 : Int) ≤ (s[k].toNat : Int) := by omega
          have hg5 : (57 : Int) < (s[k].toNat : Int) := by omega
          have hg6 : decide ((s[k].toNat : Int) < 48) = false := decide_eq_false (by omega)
          have hg7 : decide ((57 : Int) < (s[k].toNat : Int)) = true := decide_eq_true (by omega)
          go_wp2_with fail
          refine Calls.mono (rzero_any _) ?_
          rintro e w3 ⟨v, rfl, h, hb⟩
          obtain ⟨b3, A3, n3, c3, d3, B3, m3, k3, rfl, -, -, -, h1, h2⟩ := h.form
          have hB := hb
          have Kr_3 := Lib.hid (Kr_2.out.below hB)
          have z_3 := Lib.hid (h1)
          have z2_3 := Lib.hid (h2)
          have HB_3 := Lib.hid (below_trans HB_2.out hB)
          have hs_3 : w.heap.size ≤ w3.heap.size := HB_3.out.size
          have hz_3 : w2.heap.size + 0 ≤ w3.heap.size := (by have h := hb.size; (try simp at h); omega)
          clear hB hb Kr_2 HB_2
          obtain ⟨p10, p11, p12, p13, l1⟩ := Kr_3.out.use4
          obtain ⟨r10, r11, r12, r13⟩ := Kr_3.out.into4
          go_wp2
          obtain ⟨WF, hWF⟩ : ∃ W, W = ((((w3.setCell ⟨w.heap.size, 0, none⟩ (.bool b3)).setCell ⟨w.heap.size, 1, none⟩ (.slice A3 n3 c3)).setCell ⟨w.heap.size, 2, none⟩ (.bool d3)).setCell ⟨w.heap.size, 3, none⟩ (.slice B3 m3 k3)) := ⟨_, rfl⟩
          rw [← hWF]
          have kq : Blk WF (w.heap.size) 26 #[.bool b3, .slice A3 n3 c3, .bool d3, .slice B3 m3 k3] := by rw [hWF]; exact Kr_3.out.own4
          have hBF : Below w.heap.size w WF := by rw [hWF]; exact Below.set4 (HB_3.out) (by first | omega | (simp; omega) | simp)
          have f1 : IsInt WF (.agg #[.bool b3, .slice A3 n3 c3]) (0 : Rat).num := by rw [hWF]; exact z_3.out.other4 Kr_3.out nu nu nu nu
          have f2 : IsInt WF (.agg #[.bool d3, .slice B3 m3 k3]) ((0 : Rat).den : Int) := by rw [hWF]; exact z2_3.out.other4 Kr_3.out nu nu nu nu
          have HE : Hid (RdPost w WF (Ending.returned (.tuple #[.agg #[.bool b3, .slice A3 n3 c3, .bool d3, .slice B3 m3 k3], .bool false])) (Dg (s.extract (i + 1) s.size).data.toList) (Rat.divInt (sg false (N * 10 ^ (s.size - (i + 1)) + lv (s.extract (i + 1) s.size).data.toList)) ((10 ^ (s.size - (i + 1)) : Nat) : Int))) := ⟨fun h => absurd h HND.out, fun _ => ⟨_, rfl, ⟨_, _, _, _, rfl, f1, f2⟩, hBF⟩⟩
          obtain ⟨e0, e1, e2, e3⟩ := kq.cells4
          clear hWF
          exact bodyPost_ret (v := .tuple #[.agg #[.bool b3, .slice A3 n3 c3, .bool d3, .slice B3 m3 k3], .bool false]) (by simp [results, Tryz.results78, go_sem, e0, e1, e2, e3] <;> omega) rfl HE.out
      · have hg4 : (48 : Int) ≤ (s[k].toNat : Int) := by omega
        have hg5 : (s[k].toNat : Int) ≤ 57 := by omega
        have hg6 : decide ((s[k].toNat : Int) < 48) = false := decide_eq_false (by omega)
        have hg7 : decide ((57 : Int) < (s[k].toNat : Int)) = false := decide_eq_false (by omega)
        have hw1 : IntKind.u8.wrap ((s[k].toNat : Int) - 48) = (s[k].toNat : Int) - 48 := by
          generalize s[k].toNat = c at *
          simp [IntKind.wrap, IntKind.bits, IntKind.signed]
          omega
        have hw2 : IntKind.u32.wrap ((s[k].toNat : Int) - 48) = (s[k].toNat : Int) - 48 := by
          generalize s[k].toNat = c at *
          simp [IntKind.wrap, IntKind.bits, IntKind.signed]
          omega
        have HC : Hid ((s[k].toNat : Int) - 48 = ((f j - 48 : Nat) : Int)) := by show _ = _; omega
        have hc2 : f j - 48 < 4294967296 := by omega
        have HDJ := Lib.hid (dval_lt (f := f) j fun q hq => (HI.out.2.2.1 q hq).2)
        have HD1 : Hid (dval f (j + 1) = 10 * dval f j + (f j - 48)) := rfl
        have HA1 : Hid (∀ q, q < j + 1 → 48 ≤ f q ∧ f q ≤ 57) := by
          show ∀ q, _
          intro q hq
          by_cases h : q = j
          · subst h; omega
          · exact HI.out.2.2.1 q (by omega)
        have HX1 : Hid ((N * 10 ^ j + dval f j) * 10 < 4294967296 ^ (K + j + 1)) := by
          show _ < _
          have h1 := dec_lim (K := K) (N := N) HNK.out HDJ.out
          rw [Nat.pow_succ]
          generalize (4294967296 : Nat) ^ (K + j) = P at *
          omega
        have HX2 : Hid ((N * 10 ^ j + dval f j) * 10 + (f j - 48) < 4294967296 ^ (K + (j + 1))) := by
          show _ < _
          have h1 := dec_lim (K := K) (N := N) HNK.out HDJ.out
          rw [← Nat.add_assoc, Nat.pow_succ]
          generalize (4294967296 : Nat) ^ (K + j) = P at *
          omega
        have HX3 : Hid ((N * 10 ^ j + dval f j) * 10 + (f j - 48) = N * 10 ^ (j + 1) + dval f (j + 1)) := by
          show _ = _
          rw [HD1.out, Nat.pow_succ, ← Nat.mul_assoc]
          omega
        have HX4 := Lib.hid (ten_lim (j + 1))
        have HLN := Lib.hid HI.out.1
        have HLD := Lib.hid HI.out.2.1
        have HB := Lib.hid HI.out.2.2.2
        have hj1000 : j ≤ 1000 := by have := HKJ.out; omega
        have hK1000 : K ≤ 1000 := HKK.out
        generalize hX : N * 10 ^ j + dval f j = X at *
        have HT10 : Hid (10 ^ (j + 1) = 10 ^ j * 10) := Nat.pow_succ ..
        generalize hT : 10 ^ j = T10 at *
        clear ek HI hfk hX hT
        go_wp2
        go_region_with (first
          | (go_at_call 90; refine Calls.mono (rMul (k := K + j) (m := 1) (N := X) (M := 10) (by repeat (first | assumption | (with_reducible refine Hid.out ?_; assumption) | with_reducible refine Lim.drew_ ?_ | with_reducible refine Lim.alloc_ ?_ _ | with_reducible refine Lim.below ?_ (by assumption))) (by repeat (first | with_reducible exact lim_litG _ _ (by simp) 10 _ rfl (by decide) | with_reducible refine Lim.drew_ ?_ | with_reducible refine Lim.alloc_ ?_ _ | with_reducible refine Lim.below ?_ (by assumption))) (by omega) (by omega)) ?_; rintro e w2 ⟨v2, rfl, hm2, hb2⟩; have L2 := Lib.hid (IsNat.lim (k := K + j + 1) hm2 HX1.out))
          | (go_at_call 89; refine Calls.mono (rAdd (k := K + j + 1) (m := 1) (N := X * 10) (M := f j - 48) (by repeat (first | assumption | (with_reducible refine Hid.out ?_; assumption) | with_reducible refine Lim.drew_ ?_ | with_reducible refine Lim.alloc_ ?_ _ | with_reducible refine Lim.below ?_ (by assumption))) (by repeat (first | with_reducible exact lim_litG _ _ (by simp) (f j - 48) _ HC.out hc2 | with_reducible refine Lim.drew_ ?_ | with_reducible refine Lim.alloc_ ?_ _ | with_reducible refine Lim.below ?_ (by assumption))) (by omega) (by omega)) ?_; rintro e w3 ⟨v3, rfl, hm3, hb3⟩; have L3 := Lib.hid (IsNat.lim (k := K + (j + 1)) hm3 HX2.out)))
        all_goals
          have HBR : Hid (Below wr.heap.size wr w3) := by
            show Below _ _ _
            have hz1 := hb2.size
            have hz3 := hb3.size
            simp at hz1 hz3
            repeat first
              | exact Below.refl _ _
              | exact (Below.refl _ _).drew
              | (with_reducible refine Below.trans ?_ (Below.mono (by assumption) ?_))
              | (with_reducible refine Below.alloc_ ?_ ?_ _)
              | (with_reducible refine Below.drew ?_)
              | exact Nat.le_refl _
              | omega
              | focus (simp <;> omega)
          have HLD3 := Lib.hid (HLD.out.below HBR.out)
          have HB3 := Lib.hid (HB.out.trans (HBR.out.mono HB.out.size))
          clear hm2 hb2 L2 hm3 hb3 HBR HLN HLD
          go_wp2_with fail
          refine Calls.mono (rMul (k := j + 1) (m := 1) (N := T10) (M := 10) (HLD3.out.alloc_ _) (lim_litG _ _ rfl 10 _ rfl (by decide)) (by omega) (by omega)) ?_
          rintro e w4 ⟨v4, rfl, hm4, hb4⟩
          have L4 := Lib.hid (IsNat.lim (k := j + 1 + 1) hm4 (by rw [← HT10.out]; exact HX4.out))
          have HB4 := Lib.hid (below_trans HB3.out (bun hb4))
          have HINV : Hid (DcInv w1 w4 v3 v4 K N (j + 1) f) := ⟨by rw [← HX3.out]; exact (L3.out.below (bun hb4)), by rw [HT10.out]; exact L4.out, HA1.out, HB4.out⟩
          clear hm4 hb4
          go_wp2
          go_roundw
          case rel => exact ⟨k + 1, j + 1, by have := HKJ.out; omega, by omega, by go_num, HINV.out⟩
          case measure => simp [intOf]; omega
    · obtain rfl : k = s.size := by omega
      have hjm : s.size - (i + 1) = j := by have := HKJ.out; omega
      have HDG : Hid (Dg (s.extract (i + 1) s.size).data.toList) := by
        show Dg _
        rw [dg_bt, TB.out.1]
        intro q hq
        rw [TB.out.2 q hq]
        have := HI.out.2.2.1 q (by omega)
        rw [HF.out] at this
        exact this
      have HLV : Hid (lv (s.extract (i + 1) s.size).data.toList = dval f j) := by
        show _ = _
        rw [← bt_lv, TB.out.1, hjm]
        refine dval_congr _ fun q hq => ?_
        rw [TB.out.2 q (by omega), HF.out]
      have hp10 : 0 < 10 ^ j := Nat.pow_pos (by omega)
      obtain ⟨A8, n8, c8, g8, rfl, h8⟩ := HI.out.1
      obtain ⟨A9, n9, c9, g9, rfl, h9⟩ := HI.out.2.1
      have RP := r_plain (lq_divInt (k := K + j + 1) (b := false) (Lim.more (k := K + j) ⟨A8, n8, c8, g8, rfl, h8⟩ (by omega)) (Lim.more (k := j + 1) ⟨A9, n9, c9, g9, rfl, h9⟩ (by omega)) hp10) (by have := HKK.out; omega)
      rw [← HLV.out, ← hjm] at RP
      obtain ⟨Q, hQ⟩ : ∃ Q, (Rat.divInt (sg false (N * 10 ^ (s.size - (i + 1)) + lv (s.extract (i + 1) s.size).data.toList)) ((10 ^ (s.size - (i + 1)) : Nat) : Int)) = Q := ⟨_, rfl⟩
      have HRP := Lib.hid (hQ ▸ RP)
      have HQ := Lib.hid hQ
      have Kr_2 := Lib.hid (Kr_1.out.below HI.out.2.2.2)
      have HB_2 := Lib.hid (below_trans HB_1.out HI.out.2.2.2)
      obtain ⟨w2, rfl⟩ : ∃ x, x = wr := ⟨_, rfl⟩
      have hs_2 : w.heap.size ≤ w2.heap.size := HB_2.out.size
      have hz_2 : w.heap.size + 1 ≤ w2.heap.size := by have := HI.out.2.2.2.size; omega
      clear HI hfk Kr_1 HB_1 RP hQ hjm h8 h9 hp10
      go_wp2_with fail
      refine Calls.mono (HRP.out) ?_
      rintro e w3 ⟨v, rfl, h, hb⟩
      obtain ⟨b3, A3, n3, c3, d3, B3, m3, k3, rfl, -, -, -, h1, h2⟩ := h.form
      have hB := hb
      have Kr_3 := Lib.hid (Kr_2.out.below hB)
      have z_3 := Lib.hid (h1)
      have z2_3 := Lib.hid (h2)
      have HB_3 := Lib.hid (below_trans HB_2.out hB)
      have hs_3 : w.heap.size ≤ w3.heap.size := HB_3.out.size
      have hz_3 : w2.heap.size + 0 ≤ w3.heap.size := (by have h := hb.size; (try simp at h); omega)
      clear hB hb Kr_2 HB_2
      obtain ⟨p10, p11, p12, p13, l1⟩ := Kr_3.out.use4
      obtain ⟨r10, r11, r12, r13⟩ := Kr_3.out.into4
      go_wp2
      obtain ⟨WF, hWF⟩ : ∃ W, W = ((((w3.setCell ⟨w.heap.size, 0, none⟩ (.bool b3)).setCell ⟨w.heap.size, 1, none⟩ (.slice A3 n3 c3)).setCell ⟨w.heap.size, 2, none⟩ (.bool d3)).setCell ⟨w.heap.size, 3, none⟩ (.slice B3 m3 k3)) := ⟨_, rfl⟩
      rw [← hWF]
      have kq : Blk WF (w.heap.size) 26 #[.bool b3, .slice A3 n3 c3, .bool d3, .slice B3 m3 k3] := by rw [hWF]; exact Kr_3.out.own4
      have hBF : Below w.heap.size w WF := by rw [hWF]; exact Below.set4 (HB_3.out) (by first | omega | (simp; omega) | simp)
      have f1 : IsInt WF (.agg #[.bool b3, .slice A3 n3 c3]) Q.num := by rw [hWF]; exact z_3.out.other4 Kr_3.out nu nu nu nu
      have f2 : IsInt WF (.agg #[.bool d3, .slice B3 m3 k3]) (Q.den : Int) := by rw [hWF]; exact z2_3.out.other4 Kr_3.out nu nu nu nu
      have HE : Hid (RdPost w WF (Ending.returned (.tuple #[.agg #[.bool b3, .slice A3 n3 c3, .bool d3, .slice B3 m3 k3], .bool true])) (Dg (s.extract (i + 1) s.size).data.toList) (Rat.divInt (sg false (N * 10 ^ (s.size - (i + 1)) + lv (s.extract (i + 1) s.size).data.toList)) ((10 ^ (s.size - (i + 1)) : Nat) : Int))) := ⟨fun _ => by rw [HQ.out]; exact ⟨_, rfl, ⟨_, _, _, _, rfl, f1, f2⟩, hBF⟩, fun h => absurd HDG.out h⟩
      obtain ⟨e0, e1, e2, e3⟩ := kq.cells4
      clear hWF
      exact bodyPost_ret (v := .tuple #[.agg #[.bool b3, .slice A3 n3 c3, .bool d3, .slice B3 m3 k3], .bool true]) (by simp [results, Tryz.results78, go_sem, e0, e1, e2, e3] <;> omega) rfl HE.out

set_option maxRecDepth 100000 in
set_option maxHeartbeats 4000000 in
theorem rdec_no_t (s : ByteArray) (i N : Nat) (w : World) (hs : s.size ≤ 1000) (hi0 : 0 < i) (hi : i < s.size) (hz : (((s[0]'(by omega)).toNat : Int) == 45) = true) (HN : ∀ w, Calls Tryz.prog 80 #[.string (s.extract 1 i)] w fun e w' => ParsePost w w' e false N)  :
    Calls Tryz.prog 78 #[.string s, .int .i64 (i : Int)] w fun e w' => RatOfPost w w' e 0 false := by
  have HP := fun w => Lib.hid (HN w)
  have he : ((s.extract 1 i).size : Int) ≤ 1000 := by rw [ByteArray.size_extract]; omega
  clear HN
  go_enter Tryz.func78, Tryz.ntmps78
  go_wp2_with fail
  refine Calls.mono ((HP _).out) ?_
  rintro e w1 ⟨v, rfl, h, hb⟩
  obtain ⟨A1, n1, c1, rfl, -, h⟩ := isNat_form h
  have hB := bun (hb)
  have Kr_1 := Lib.hid (show Blk w1 (w.heap.size) 26 #[.bool false, .slice none 0 0, .bool false, .slice none 0 0] from (Blk.new _ _ (by simp) _ _).below hb)
  have n_1 := Lib.hid (h)
  have HB_1 := Lib.hid (hB)
  have hs_1 : w.heap.size ≤ w1.heap.size := HB_1.out.size
  have hz_1 : w.heap.size + 1 ≤ w1.heap.size := (by have h := hb.size; (try simp at h); omega)
  clear hB hb 
  go_wp2_with fail
  refine Calls.mono (rzero_any _) ?_
  rintro e w2 ⟨v, rfl, h, hb⟩
  obtain ⟨b2, A2, n2, c2, d2, B2, m2, k2, rfl, -, -, -, h1, h2⟩ := h.form
  have hB := hb
  have Kr_2 := Lib.hid (Kr_1.out.below hB)
  have z_2 := Lib.hid (h1)
  have z2_2 := Lib.hid (h2)
  have HB_2 := Lib.hid (below_trans HB_1.out hB)
  have hs_2 : w.heap.size ≤ w2.heap.size := HB_2.out.size
  have hz_2 : w1.heap.size + 0 ≤ w2.heap.size := (by have h := hb.size; (try simp at h); omega)
  clear hB hb n_1 Kr_1 HB_1
  obtain ⟨p10, p11, p12, p13, l1⟩ := Kr_2.out.use4
  obtain ⟨r10, r11, r12, r13⟩ := Kr_2.out.into4
  go_wp2
  obtain ⟨WF, hWF⟩ : ∃ W, W = ((((w2.setCell ⟨w.heap.size, 0, none⟩ (.bool b2)).setCell ⟨w.heap.size, 1, none⟩ (.slice A2 n2 c2)).setCell ⟨w.heap.size, 2, none⟩ (.bool d2)).setCell ⟨w.heap.size, 3, none⟩ (.slice B2 m2 k2)) := ⟨_, rfl⟩
  rw [← hWF]
  have kq : Blk WF (w.heap.size) 26 #[.bool b2, .slice A2 n2 c2, .bool d2, .slice B2 m2 k2] := by rw [hWF]; exact Kr_2.out.own4
  have hBF : Below w.heap.size w WF := by rw [hWF]; exact Below.set4 (HB_2.out) (by first | omega | (simp; omega) | simp)
  have f1 : IsInt WF (.agg #[.bool b2, .slice A2 n2 c2]) (0 : Rat).num := by rw [hWF]; exact z_2.out.other4 Kr_2.out nu nu nu nu
  have f2 : IsInt WF (.agg #[.bool d2, .slice B2 m2 k2]) ((0 : Rat).den : Int) := by rw [hWF]; exact z2_2.out.other4 Kr_2.out nu nu nu nu
  have HE : Hid (RatOfPost w WF (Ending.returned (.tuple #[.agg #[.bool b2, .slice A2 n2 c2, .bool d2, .slice B2 m2 k2], .bool false])) 0 false) := ⟨_, rfl, ⟨_, _, _, _, rfl, f1, f2⟩, hBF⟩
  obtain ⟨e0, e1, e2, e3⟩ := kq.cells4
  clear hWF
  exact bodyPost_ret (v := .tuple #[.agg #[.bool b2, .slice A2 n2 c2, .bool d2, .slice B2 m2 k2], .bool false]) (by simp [results, Tryz.results78, go_sem, e0, e1, e2, e3] <;> omega) rfl HE.out

set_option maxRecDepth 100000 in
set_option maxHeartbeats 4000000 in
theorem rdec_end_t (s : ByteArray) (i N : Nat) (w : World) (hs : s.size ≤ 1000) (hi0 : 0 < i) (hi : i < s.size) (hz : (((s[0]'(by omega)).toNat : Int) == 45) = true) (HN : ∀ w, Calls Tryz.prog 80 #[.string (s.extract 1 i)] w fun e w' => ParsePost w w' e true N) (hn : i + 1 = s.size) :
    Calls Tryz.prog 78 #[.string s, .int .i64 (i : Int)] w fun e w' => RatOfPost w w' e 0 false := by
  have HP := fun w => Lib.hid (HN w)
  have he : ((s.extract 1 i).size : Int) ≤ 1000 := by rw [ByteArray.size_extract]; omega
  clear HN
  have hq : ((i : Int) + 1 == (s.size : Int)) = true := by rw [beq_iff_eq]; omega
  go_enter Tryz.func78, Tryz.ntmps78
  go_wp2_with fail
  refine Calls.mono ((HP _).out) ?_
  rintro e w1 ⟨v, rfl, h, hb⟩
  obtain ⟨A1, n1, c1, rfl, -, h⟩ := isNat_form h
  have hB := bun (hb)
  have Kr_1 := Lib.hid (show Blk w1 (w.heap.size) 26 #[.bool false, .slice none 0 0, .bool false, .slice none 0 0] from (Blk.new _ _ (by simp) _ _).below hb)
  have n_1 := Lib.hid (h)
  have HB_1 := Lib.hid (hB)
  have hs_1 : w.heap.size ≤ w1.heap.size := HB_1.out.size
  have hz_1 : w.heap.size + 1 ≤ w1.heap.size := (by have h := hb.size; (try simp at h); omega)
  clear hB hb 
  go_wp2_with fail
  refine Calls.mono (rzero_any _) ?_
  rintro e w2 ⟨v, rfl, h, hb⟩
  obtain ⟨b2, A2, n2, c2, d2, B2, m2, k2, rfl, -, -, -, h1, h2⟩ := h.form
  have hB := hb
  have Kr_2 := Lib.hid (Kr_1.out.below hB)
  have z_2 := Lib.hid (h1)
  have z2_2 := Lib.hid (h2)
  have HB_2 := Lib.hid (below_trans HB_1.out hB)
  have hs_2 : w.heap.size ≤ w2.heap.size := HB_2.out.size
  have hz_2 : w1.heap.size + 0 ≤ w2.heap.size := (by have h := hb.size; (try simp at h); omega)
  clear hB hb n_1 Kr_1 HB_1
  obtain ⟨p10, p11, p12, p13, l1⟩ := Kr_2.out.use4
  obtain ⟨r10, r11, r12, r13⟩ := Kr_2.out.into4
  go_wp2
  obtain ⟨WF, hWF⟩ : ∃ W, W = ((((w2.setCell ⟨w.heap.size, 0, none⟩ (.bool b2)).setCell ⟨w.heap.size, 1, none⟩ (.slice A2 n2 c2)).setCell ⟨w.heap.size, 2, none⟩ (.bool d2)).setCell ⟨w.heap.size, 3, none⟩ (.slice B2 m2 k2)) := ⟨_, rfl⟩
  rw [← hWF]
  have kq : Blk WF (w.heap.size) 26 #[.bool b2, .slice A2 n2 c2, .bool d2, .slice B2 m2 k2] := by rw [hWF]; exact Kr_2.out.own4
  have hBF : Below w.heap.size w WF := by rw [hWF]; exact Below.set4 (HB_2.out) (by first | omega | (simp; omega) | simp)
  have f1 : IsInt WF (.agg #[.bool b2, .slice A2 n2 c2]) (0 : Rat).num := by rw [hWF]; exact z_2.out.other4 Kr_2.out nu nu nu nu
  have f2 : IsInt WF (.agg #[.bool d2, .slice B2 m2 k2]) ((0 : Rat).den : Int) := by rw [hWF]; exact z2_2.out.other4 Kr_2.out nu nu nu nu
  have HE : Hid (RatOfPost w WF (Ending.returned (.tuple #[.agg #[.bool b2, .slice A2 n2 c2, .bool d2, .slice B2 m2 k2], .bool false])) 0 false) := ⟨_, rfl, ⟨_, _, _, _, rfl, f1, f2⟩, hBF⟩
  obtain ⟨e0, e1, e2, e3⟩ := kq.cells4
  clear hWF
  exact bodyPost_ret (v := .tuple #[.agg #[.bool b2, .slice A2 n2 c2, .bool d2, .slice B2 m2 k2], .bool false]) (by simp [results, Tryz.results78, go_sem, e0, e1, e2, e3] <;> omega) rfl HE.out

set_option maxRecDepth 100000 in
set_option maxHeartbeats 4000000 in
theorem rdec_in_t (s : ByteArray) (i N : Nat) (w : World) (hs : s.size ≤ 1000) (hi0 : 0 < i) (hi : i < s.size) (hz : (((s[0]'(by omega)).toNat : Int) == 45) = true) (HN : ∀ w, Calls Tryz.prog 80 #[.string (s.extract 1 i)] w fun e w' => ParsePost w w' e true N) (hn : i + 1 < s.size) (K : Nat) (hNK : N < 4294967296 ^ K) (hKK : K ≤ 1000) :
    Calls Tryz.prog 78 #[.string s, .int .i64 (i : Int)] w fun e w' => RdPost w w' e (Dg (s.extract (i + 1) s.size).data.toList) (Rat.divInt (sg true (N * 10 ^ (s.size - (i + 1)) + lv (s.extract (i + 1) s.size).data.toList)) ((10 ^ (s.size - (i + 1)) : Nat) : Int)) := by
  have HP := fun w => Lib.hid (HN w)
  have he : ((s.extract 1 i).size : Int) ≤ 1000 := by rw [ByteArray.size_extract]; omega
  clear HN
  have hq : ((i : Int) + 1 == (s.size : Int)) = false := by rw [beq_eq_false_iff_ne]; omega
  have HNK := Lib.hid hNK
  have HKK := Lib.hid hKK
  clear hNK hKK
  go_enter Tryz.func78, Tryz.ntmps78
  go_wp2_with fail
  refine Calls.mono ((HP _).out) ?_
  rintro e w1 ⟨v, rfl, h, hb⟩
  obtain ⟨A1, n1, c1, rfl, -, h⟩ := isNat_form h
  have hB := bun (hb)
  have Kr_1 := Lib.hid (show Blk w1 (w.heap.size) 26 #[.bool false, .slice none 0 0, .bool false, .slice none 0 0] from (Blk.new _ _ (by simp) _ _).below hb)
  have n_1 := Lib.hid (h)
  have HB_1 := Lib.hid (hB)
  have hs_1 : w.heap.size ≤ w1.heap.size := HB_1.out.size
  have hz_1 : w.heap.size + 1 ≤ w1.heap.size := (by have h := hb.size; (try simp at h); omega)
  clear hB hb 
  have NL := Lib.hid (IsNat.lim (k := K) n_1.out HNK.out)
  have TB := Lib.hid (tail_bt hi)
  obtain ⟨f, hf⟩ : ∃ f : Nat → Nat, f = fun q => bt s (i + 1 + q) := ⟨_, rfl⟩
  have HF := Lib.hid hf
  clear n_1 hf hz he
  go_wp2
  go_loopw [8, 10, 11] (fun v8 v10 v11 wr => ∃ (k j : Nat), k = i + 1 + j ∧ k ≤ s.size ∧ v11 = .int .i64 (k : Nat) ∧ DcInv w1 wr v8 v10 K N j f) (fun _ _ v11 _ => s.size - (intOf v11).toNat)
  case atStart => exact ⟨i + 1, 0, rfl, by omega, by simp, by rw [Nat.pow_zero, Nat.mul_one]; exact (NL.out.alloc_ _), lim_lit32 1 (by decide) w1, fun q hq => absurd hq (by omega), below_new w1 _⟩
  case round =>
    obtain ⟨k, j, hkj, hk, rfl, hinv⟩ := hrel
    have HI := Lib.hid hinv
    have hfk : f j = bt s k := by rw [HF.out, hkj]
    have HKJ := Lib.hid hkj
    clear hinv hkj
    by_cases hlt : k < s.size
    · have ek := bt_get s k hlt
      by_cases hbad : s[k].toNat < 48 ∨ 57 < s[k].toNat
      · have HND : Hid (¬ Dg (s.extract (i + 1) s.size).data.toList) := by
          show ¬ _
          rw [dg_bt, TB.out.1]
          intro h
          have hkj := HKJ.out
          have h1 := h j (by omega)
          rw [TB.out.2 j (by omega), ← hkj, ek] at h1
          omega
        have Kr_2 := Lib.hid (Kr_1.out.below HI.out.2.2.2)
        have HB_2 := Lib.hid (below_trans HB_1.out HI.out.2.2.2)
        obtain ⟨w2, rfl⟩ : ∃ x, x = wr := ⟨_, rfl⟩
        have hs_2 : w.heap.size ≤ w2.heap.size := HB_2.out.size
        have hz_2 : w.heap.size + 1 ≤ w2.heap.size := by have := HI.out.2.2.2.size; omega
        clear ek HI hfk Kr_1 HB_1
        rcases hbad with hlo | hhi
        · have hg4 : (s[k].toNat : Int) < 48 := by omega
          go_wp2_with fail
          refine Calls.mono (rzero_any _) ?_
          rintro e w3 ⟨v, rfl, h, hb⟩
          obtain ⟨b3, A3, n3, c3, d3, B3, m3, k3, rfl, -, -, -, h1, h2⟩ := h.form
          have hB := hb
          have Kr_3 := Lib.hid (Kr_2.out.below hB)
          have z_3 := Lib.hid (h1)
          have z2_3 := Lib.hid (h2)
          have HB_3 := Lib.hid (below_trans HB_2.out hB)
          have hs_3 : w.heap.size ≤ w3.heap.size := HB_3.out.size
          have hz_3 : w2.heap.size + 0 ≤ w3.heap.size := (by have h := hb.size; (try simp at h); omega)
          clear hB hb Kr_2 HB_2
          obtain ⟨p10, p11, p12, p13, l1⟩ := Kr_3.out.use4
          obtain ⟨r10, r11, r12, r13⟩ := Kr_3.out.into4
          go_wp2
          obtain ⟨WF, hWF⟩ : ∃ W, W = ((((w3.setCell ⟨w.heap.size, 0, none⟩ (.bool b3)).setCell ⟨w.heap.size, 1, none⟩ (.slice A3 n3 c3)).setCell ⟨w.heap.size, 2, none⟩ (.bool d3)).setCell ⟨w.heap.size, 3, none⟩ (.slice B3 m3 k3)) := ⟨_, rfl⟩
          rw [← hWF]
          have kq : Blk WF (w.heap.size) 26 #[.bool b3, .slice A3 n3 c3, .bool d3, .slice B3 m3 k3] := by rw [hWF]; exact Kr_3.out.own4
          have hBF : Below w.heap.size w WF := by rw [hWF]; exact Below.set4 (HB_3.out) (by first | omega | (simp; omega) | simp)
          have f1 : IsInt WF (.agg #[.bool b3, .slice A3 n3 c3]) (0 : Rat).num := by rw [hWF]; exact z_3.out.other4 Kr_3.out nu nu nu nu
          have f2 : IsInt WF (.agg #[.bool d3, .slice B3 m3 k3]) ((0 : Rat).den : Int) := by rw [hWF]; exact z2_3.out.other4 Kr_3.out nu nu nu nu
          have HE : Hid (RdPost w WF (Ending.returned (.tuple #[.agg #[.bool b3, .slice A3 n3 c3, .bool d3, .slice B3 m3 k3], .bool false])) (Dg (s.extract (i + 1) s.size).data.toList) (Rat.divInt (sg true (N * 10 ^ (s.size - (i + 1)) + lv (s.extract (i + 1) s.size).data.toList)) ((10 ^ (s.size - (i + 1)) : Nat) : Int))) := ⟨fun h => absurd h HND.out, fun _ => ⟨_, rfl, ⟨_, _, _, _, rfl, f1, f2⟩, hBF⟩⟩
          obtain ⟨e0, e1, e2, e3⟩ := kq.cells4
          clear hWF
          exact bodyPost_ret (v := .tuple #[.agg #[.bool b3, .slice A3 n3 c3, .bool d3, .slice B3 m3 k3], .bool false]) (by simp [results, Tryz.results78, go_sem, e0, e1, e2, e3] <;> omega) rfl HE.out
        · have hg4 : (48 : Int) ≤ (s[k].toNat : Int) := by omega
          have hg5 : (57 : Int) < (s[k].toNat : Int) := by omega
          have hg6 : decide ((s[k].toNat : Int) < 48) = false := decide_eq_false (by omega)
          have hg7 : decide ((57 : Int) < (s[k].toNat : Int)) = true := decide_eq_true (by omega)
          go_wp2_with fail
          refine Calls.mono (rzero_any _) ?_
          rintro e w3 ⟨v, rfl, h, hb⟩
          obtain ⟨b3, A3, n3, c3, d3, B3, m3, k3, rfl, -, -, -, h1, h2⟩ := h.form
          have hB := hb
          have Kr_3 := Lib.hid (Kr_2.out.below hB)
          have z_3 := Lib.hid (h1)
          have z2_3 := Lib.hid (h2)
          have HB_3 := Lib.hid (below_trans HB_2.out hB)
          have hs_3 : w.heap.size ≤ w3.heap.size := HB_3.out.size
          have hz_3 : w2.heap.size + 0 ≤ w3.heap.size := (by have h := hb.size; (try simp at h); omega)
          clear hB hb Kr_2 HB_2
          obtain ⟨p10, p11, p12, p13, l1⟩ := Kr_3.out.use4
          obtain ⟨r10, r11, r12, r13⟩ := Kr_3.out.into4
          go_wp2
          obtain ⟨WF, hWF⟩ : ∃ W, W = ((((w3.setCell ⟨w.heap.size, 0, none⟩ (.bool b3)).setCell ⟨w.heap.size, 1, none⟩ (.slice A3 n3 c3)).setCell ⟨w.heap.size, 2, none⟩ (.bool d3)).setCell ⟨w.heap.size, 3, none⟩ (.slice B3 m3 k3)) := ⟨_, rfl⟩
          rw [← hWF]
          have kq : Blk WF (w.heap.size) 26 #[.bool b3, .slice A3 n3 c3, .bool d3, .slice B3 m3 k3] := by rw [hWF]; exact Kr_3.out.own4
          have hBF : Below w.heap.size w WF := by rw [hWF]; exact Below.set4 (HB_3.out) (by first | omega | (simp; omega) | simp)
          have f1 : IsInt WF (.agg #[.bool b3, .slice A3 n3 c3]) (0 : Rat).num := by rw [hWF]; exact z_3.out.other4 Kr_3.out nu nu nu nu
          have f2 : IsInt WF (.agg #[.bool d3, .slice B3 m3 k3]) ((0 : Rat).den : Int) := by rw [hWF]; exact z2_3.out.other4 Kr_3.out nu nu nu nu
          have HE : Hid (RdPost w WF (Ending.returned (.tuple #[.agg #[.bool b3, .slice A3 n3 c3, .bool d3, .slice B3 m3 k3], .bool false])) (Dg (s.extract (i + 1) s.size).data.toList) (Rat.divInt (sg true (N * 10 ^ (s.size - (i + 1)) + lv (s.extract (i + 1) s.size).data.toList)) ((10 ^ (s.size - (i + 1)) : Nat) : Int))) := ⟨fun h => absurd h HND.out, fun _ => ⟨_, rfl, ⟨_, _, _, _, rfl, f1, f2⟩, hBF⟩⟩
          obtain ⟨e0, e1, e2, e3⟩ := kq.cells4
          clear hWF
          exact bodyPost_ret (v := .tuple #[.agg #[.bool b3, .slice A3 n3 c3, .bool d3, .slice B3 m3 k3], .bool false]) (by simp [results, Tryz.results78, go_sem, e0, e1, e2, e3] <;> omega) rfl HE.out
      · have hg4 : (48 : Int) ≤ (s[k].toNat : Int) := by omega
        have hg5 : (s[k].toNat : Int) ≤ 57 := by omega
        have hg6 : decide ((s[k].toNat : Int) < 48) = false := decide_eq_false (by omega)
        have hg7 : decide ((57 : Int) < (s[k].toNat : Int)) = false := decide_eq_false (by omega)
        have hw1 : IntKind.u8.wrap ((s[k].toNat : Int) - 48) = (s[k].toNat : Int) - 48 := by
          generalize s[k].toNat = c at *
          simp [IntKind.wrap, IntKind.bits, IntKind.signed]
          omega
        have hw2 : IntKind.u32.wrap ((s[k].toNat : Int) - 48) = (s[k].toNat : Int) - 48 := by
          generalize s[k].toNat = c at *
          simp [IntKind.wrap, IntKind.bits, IntKind.signed]
          omega
        have HC : Hid ((s[k].toNat : Int) - 48 = ((f j - 48 : Nat) : Int)) := by show _ = _; omega
        have hc2 : f j - 48 < 4294967296 := by omega
        have HDJ := Lib.hid (dval_lt (f := f) j fun q hq => (HI.out.2.2.1 q hq).2)
        have HD1 : Hid (dval f (j + 1) = 10 * dval f j + (f j - 48)) := rfl
        have HA1 : Hid (∀ q, q < j + 1 → 48 ≤ f q ∧ f q ≤ 57) := by
          show ∀ q, _
          intro q hq
          by_cases h : q = j
          · subst h; omega
          · exact HI.out.2.2.1 q (by omega)
        have HX1 : Hid ((N * 10 ^ j + dval f j) * 10 < 4294967296 ^ (K + j + 1)) := by
          show _ < _
          have h1 := dec_lim (K := K) (N := N) HNK.out HDJ.out
          rw [Nat.pow_succ]
          generalize (4294967296 : Nat) ^ (K + j) = P at *
          omega
        have HX2 : Hid ((N * 10 ^ j + dval f j) * 10 + (f j - 48) < 4294967296 ^ (K + (j + 1))) := by
          show _ < _
          have h1 := dec_lim (K := K) (N := N) HNK.out HDJ.out
          rw [← Nat.add_assoc, Nat.pow_succ]
          generalize (4294967296 : Nat) ^ (K + j) = P at *
          omega
        have HX3 : Hid ((N * 10 ^ j + dval f j) * 10 + (f j - 48) = N * 10 ^ (j + 1) + dval f (j + 1)) := by
          show _ = _
          rw [HD1.out, Nat.pow_succ, ← Nat.mul_assoc]
          omega
        have HX4 := Lib.hid (ten_lim (j + 1))
        have HLN := Lib.hid HI.out.1
        have HLD := Lib.hid HI.out.2.1
        have HB := Lib.hid HI.out.2.2.2
        have hj1000 : j ≤ 1000 := by have := HKJ.out; omega
        have hK1000 : K ≤ 1000 := HKK.out
        generalize hX : N * 10 ^ j + dval f j = X at *
        have HT10 : Hid (10 ^ (j + 1) = 10 ^ j * 10) := Nat.pow_succ ..
        generalize hT : 10 ^ j = T10 at *
        clear ek HI hfk hX hT
        go_wp2
        go_region_with (first
          | (go_at_call 90; refine Calls.mono (rMul (k := K + j) (m := 1) (N := X) (M := 10) (by repeat (first | assumption | (with_reducible refine Hid.out ?_; assumption) | with_reducible refine Lim.drew_ ?_ | with_reducible refine Lim.alloc_ ?_ _ | with_reducible refine Lim.below ?_ (by assumption))) (by repeat (first | with_reducible exact lim_litG _ _ (by simp) 10 _ rfl (by decide) | with_reducible refine Lim.drew_ ?_ | with_reducible refine Lim.alloc_ ?_ _ | with_reducible refine Lim.below ?_ (by assumption))) (by omega) (by omega)) ?_; rintro e w2 ⟨v2, rfl, hm2, hb2⟩; have L2 := Lib.hid (IsNat.lim (k := K + j + 1) hm2 HX1.out))
          | (go_at_call 89; refine Calls.mono (rAdd (k := K + j + 1) (m := 1) (N := X * 10) (M := f j - 48) (by repeat (first | assumption | (with_reducible refine Hid.out ?_; assumption) | with_reducible refine Lim.drew_ ?_ | with_reducible refine Lim.alloc_ ?_ _ | with_reducible refine Lim.below ?_ (by assumption))) (by repeat (first | with_reducible exact lim_litG _ _ (by simp) (f j - 48) _ HC.out hc2 | with_reducible refine Lim.drew_ ?_ | with_reducible refine Lim.alloc_ ?_ _ | with_reducible refine Lim.below ?_ (by assumption))) (by omega) (by omega)) ?_; rintro e w3 ⟨v3, rfl, hm3, hb3⟩; have L3 := Lib.hid (IsNat.lim (k := K + (j + 1)) hm3 HX2.out)))
        all_goals
          have HBR : Hid (Below wr.heap.size wr w3) := by
            show Below _ _ _
            have hz1 := hb2.size
            have hz3 := hb3.size
            simp at hz1 hz3
            repeat first
              | exact Below.refl _ _
              | exact (Below.refl _ _).drew
              | (with_reducible refine Below.trans ?_ (Below.mono (by assumption) ?_))
              | (with_reducible refine Below.alloc_ ?_ ?_ _)
              | (with_reducible refine Below.drew ?_)
              | exact Nat.le_refl _
              | omega
              | focus (simp <;> omega)
          have HLD3 := Lib.hid (HLD.out.below HBR.out)
          have HB3 := Lib.hid (HB.out.trans (HBR.out.mono HB.out.size))
          clear hm2 hb2 L2 hm3 hb3 HBR HLN HLD
          go_wp2_with fail
          refine Calls.mono (rMul (k := j + 1) (m := 1) (N := T10) (M := 10) (HLD3.out.alloc_ _) (lim_litG _ _ rfl 10 _ rfl (by decide)) (by omega) (by omega)) ?_
          rintro e w4 ⟨v4, rfl, hm4, hb4⟩
          have L4 := Lib.hid (IsNat.lim (k := j + 1 + 1) hm4 (by rw [← HT10.out]; exact HX4.out))
          have HB4 := Lib.hid (below_trans HB3.out (bun hb4))
          have HINV : Hid (DcInv w1 w4 v3 v4 K N (j + 1) f) := ⟨by rw [← HX3.out]; exact (L3.out.below (bun hb4)), by rw [HT10.out]; exact L4.out, HA1.out, HB4.out⟩
          clear hm4 hb4
          go_wp2
          go_roundw
          case rel => exact ⟨k + 1, j + 1, by have := HKJ.out; omega, by omega, by go_num, HINV.out⟩
          case measure => simp [intOf]; omega
    · obtain rfl : k = s.size := by omega
      have hjm : s.size - (i + 1) = j := by have := HKJ.out; omega
      have HDG : Hid (Dg (s.extract (i + 1) s.size).data.toList) := by
        show Dg _
        rw [dg_bt, TB.out.1]
        intro q hq
        rw [TB.out.2 q hq]
        have := HI.out.2.2.1 q (by omega)
        rw [HF.out] at this
        exact this
      have HLV : Hid (lv (s.extract (i + 1) s.size).data.toList = dval f j) := by
        show _ = _
        rw [← bt_lv, TB.out.1, hjm]
        refine dval_congr _ fun q hq => ?_
        rw [TB.out.2 q (by omega), HF.out]
      have hp10 : 0 < 10 ^ j := Nat.pow_pos (by omega)
      obtain ⟨A8, n8, c8, g8, rfl, h8⟩ := HI.out.1
      obtain ⟨A9, n9, c9, g9, rfl, h9⟩ := HI.out.2.1
      have RP := r_plain (lq_divInt (k := K + j + 1) (b := true) (Lim.more (k := K + j) ⟨A8, n8, c8, g8, rfl, h8⟩ (by omega)) (Lim.more (k := j + 1) ⟨A9, n9, c9, g9, rfl, h9⟩ (by omega)) hp10) (by have := HKK.out; omega)
      rw [← HLV.out, ← hjm] at RP
      obtain ⟨Q, hQ⟩ : ∃ Q, (Rat.divInt (sg true (N * 10 ^ (s.size - (i + 1)) + lv (s.extract (i + 1) s.size).data.toList)) ((10 ^ (s.size - (i + 1)) : Nat) : Int)) = Q := ⟨_, rfl⟩
      have HRP := Lib.hid (hQ ▸ RP)
      have HQ := Lib.hid hQ
      have Kr_2 := Lib.hid (Kr_1.out.below HI.out.2.2.2)
      have HB_2 := Lib.hid (below_trans HB_1.out HI.out.2.2.2)
      obtain ⟨w2, rfl⟩ : ∃ x, x = wr := ⟨_, rfl⟩
      have hs_2 : w.heap.size ≤ w2.heap.size := HB_2.out.size
      have hz_2 : w.heap.size + 1 ≤ w2.heap.size := by have := HI.out.2.2.2.size; omega
      clear HI hfk Kr_1 HB_1 RP hQ hjm h8 h9 hp10
      go_wp2_with fail
      refine Calls.mono (HRP.out) ?_
      rintro e w3 ⟨v, rfl, h, hb⟩
      obtain ⟨b3, A3, n3, c3, d3, B3, m3, k3, rfl, -, -, -, h1, h2⟩ := h.form
      have hB := hb
      have Kr_3 := Lib.hid (Kr_2.out.below hB)
      have z_3 := Lib.hid (h1)
      have z2_3 := Lib.hid (h2)
      have HB_3 := Lib.hid (below_trans HB_2.out hB)
      have hs_3 : w.heap.size ≤ w3.heap.size := HB_3.out.size
      have hz_3 : w2.heap.size + 0 ≤ w3.heap.size := (by have h := hb.size; (try simp at h); omega)
      clear hB hb Kr_2 HB_2
      obtain ⟨p10, p11, p12, p13, l1⟩ := Kr_3.out.use4
      obtain ⟨r10, r11, r12, r13⟩ := Kr_3.out.into4
      go_wp2
      obtain ⟨WF, hWF⟩ : ∃ W, W = ((((w3.setCell ⟨w.heap.size, 0, none⟩ (.bool b3)).setCell ⟨w.heap.size, 1, none⟩ (.slice A3 n3 c3)).setCell ⟨w.heap.size, 2, none⟩ (.bool d3)).setCell ⟨w.heap.size, 3, none⟩ (.slice B3 m3 k3)) := ⟨_, rfl⟩
      rw [← hWF]
      have kq : Blk WF (w.heap.size) 26 #[.bool b3, .slice A3 n3 c3, .bool d3, .slice B3 m3 k3] := by rw [hWF]; exact Kr_3.out.own4
      have hBF : Below w.heap.size w WF := by rw [hWF]; exact Below.set4 (HB_3.out) (by first | omega | (simp; omega) | simp)
      have f1 : IsInt WF (.agg #[.bool b3, .slice A3 n3 c3]) Q.num := by rw [hWF]; exact z_3.out.other4 Kr_3.out nu nu nu nu
      have f2 : IsInt WF (.agg #[.bool d3, .slice B3 m3 k3]) (Q.den : Int) := by rw [hWF]; exact z2_3.out.other4 Kr_3.out nu nu nu nu
      have HE : Hid (RdPost w WF (Ending.returned (.tuple #[.agg #[.bool b3, .slice A3 n3 c3, .bool d3, .slice B3 m3 k3], .bool true])) (Dg (s.extract (i + 1) s.size).data.toList) (Rat.divInt (sg true (N * 10 ^ (s.size - (i + 1)) + lv (s.extract (i + 1) s.size).data.toList)) ((10 ^ (s.size - (i + 1)) : Nat) : Int))) := ⟨fun _ => by rw [HQ.out]; exact ⟨_, rfl, ⟨_, _, _, _, rfl, f1, f2⟩, hBF⟩, fun h => absurd HDG.out h⟩
      obtain ⟨e0, e1, e2, e3⟩ := kq.cells4
      clear hWF
      exact bodyPost_ret (v := .tuple #[.agg #[.bool b3, .slice A3 n3 c3, .bool d3, .slice B3 m3 k3], .bool true]) (by simp [results, Tryz.results78, go_sem, e0, e1, e2, e3] <;> omega) rfl HE.out
end Go.Proofs.YtglcififcldchaaGreatDoor
