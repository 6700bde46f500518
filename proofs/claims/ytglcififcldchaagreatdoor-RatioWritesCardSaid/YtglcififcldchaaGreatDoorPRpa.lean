/- Contracts of ratio: quotient, places, decimal, written, where the text is no fraction's; Repeat of any many. -/
import Derived.Test.YtglcififcldchaaGreatDoorPShR
namespace Go.Proofs.YtglcififcldchaaGreatDoor
open Go.RowKit
attribute [local go_sem ↓] Go.wp_at_zero Go.wp_at_succ
set_option linter.unusedVariables false

theorem repeatL_one : ∀ n, Lib.repeatL [48] n = List.replicate n 48
  | 0 => rfl
  | n + 1 => by rw [Lib.repeatL, repeatL_one n, List.replicate_succ]; rfl
theorem repeat_any (n : Nat) (w : World) (hn : n ≤ 1000) :
    Calls Tryz.prog 140 #[.string ⟨#[48]⟩, .int .i64 (n : Int)] w fun e w' => e = .returned (.string (zeros n)) ∧ Below w.heap.size w w' := by
  have h := Tryz.strings_Repeat ⟨#[48]⟩ n w (by omega) (by show 1 * n ≤ _; omega)
  have e : (⟨(Lib.repeatL (⟨#[48]⟩ : ByteArray).data.toList n).toArray⟩ : ByteArray) = zeros n := by
    show (⟨(Lib.repeatL [48] n).toArray⟩ : ByteArray) = _
    rw [repeatL_one]
    rfl
  rw [e] at h
  exact h
theorem mem_drop : ∀ (l : List UInt8) (c : UInt8), c ∈ l → c = 48 ∨ c ∈ l.dropWhile (· == 48)
  | [], _, h => by cases h
  | b :: l, c, h => by
    rw [List.dropWhile_cons]
    by_cases hb : (b == 48) = true
    · rw [if_pos hb]
      rcases List.mem_cons.1 h with rfl | h
      · exact .inl (beq_iff_eq.1 hb)
      · exact mem_drop l c h
    · rw [if_neg hb]; exact .inr h
theorem parseI_is (s : ByteArray) (w : World) (b : Bool) (hs : s.size ≤ 1000) (h : intB s = b) : Calls Tryz.prog 111 #[.string s] w fun e w' => ∃ v, e = .returned (.tuple #[v, .bool b]) ∧ IsInt w' v (intV s) ∧ Below w.heap.size w w' := by
  have := str_parseI s w (by omega)
  rw [h] at this
  exact this
theorem parse_isB (s : ByteArray) (w : World) (b : Bool) (hs : s.size ≤ 1001) (h : isNumB s = b) : Calls Tryz.prog 137 #[.string s] w fun e w' => ∃ v, e = .returned (.tuple #[v, .bool b]) ∧ IsNat w' v (numV s) ∧ Below w.heap.size w w' := by
  have := str_parse s w (by omega)
  rw [h] at this
  exact this

set_option maxRecDepth 100000 in
set_option maxHeartbeats 4000000 in
theorem quot_no1 (s t : ByteArray) (K : Nat) (w : World) (hs : s.size ≤ K) (ht : t.size ≤ K) (hK : K ≤ 1000) (h1 : intB s = false) :
    Calls Tryz.prog 109 #[.string s, .string t] w fun e w' => WrPost K w w' e (intV s) (numV t) false := by
  obtain ⟨bb, h2⟩ : ∃ bb, isNumB t = bb := ⟨_, rfl⟩
  have HI := Lib.hid h1
  have HN := Lib.hid h2
  have HS : Hid (s.size ≤ 1000) := Nat.le_trans hs hK
  have HT : Hid (t.size ≤ 1001) := Nat.le_trans ht (Nat.le_trans hK (by omega))
  have HK := Lib.hid hK
  have BN := Lib.hid (intV_lim hs)
  have BD : Hid ((numV t : Int).natAbs < 4294967296 ^ K) := numV_lim ht
  clear h1 h2 hs ht hK
  go_enter Tryz.func109, Tryz.ntmps109
  go_wp2_with fail
  refine Calls.mono (parseI_is s _ false HS.out HI.out) ?_
  rintro e w1 ⟨v, rfl, h, hb⟩
  obtain ⟨b1, A1, n1, c1, rfl, -, -, h⟩ := h.form
  replace h := h.lim (k := K) BN.out
  have hB := bun (hb)
  have Kr_1 := Lib.hid (show Blk w1 (w.heap.size) 26 #[.bool false, .slice none 0 0, .bool false, .slice none 0 0] from (Blk.new _ _ (by simp) _ _).below hb)
  have n_1 := Lib.hid (h)
  have HB_1 := Lib.hid (hB)
  have hs_1 : w.heap.size ≤ w1.heap.size := HB_1.out.size
  have hz_1 : w.heap.size + 1 ≤ w1.heap.size := (by have h := hb.size; (try simp at h); omega)
  clear hB hb 
  go_wp2_with fail
  refine Calls.mono (parse_isB t _ bb HT.out HN.out) ?_
  rintro e w2 ⟨v, rfl, h, hb⟩
  obtain ⟨A2, n2, c2, rfl, -, h⟩ := isNat_form h
  replace h := (isInt_nat h).lim (k := K) BD.out
  have hB := bun (hb)
  have n_2 := Lib.hid (n_1.out.below hB)
  have Kr_2 := Lib.hid (Kr_1.out.below hB)
  have Kn_2 := Lib.hid (show Blk w2 (w1.heap.size) 24 #[.bool b1, .slice A1 n1 c1] from (Blk.new _ _ (by simp) _ _).below hb)
  have d_2 := Lib.hid (h)
  have HB_2 := Lib.hid (below_trans HB_1.out hB)
  have hs_2 : w.heap.size ≤ w2.heap.size := HB_2.out.size
  have hz_2 : w1.heap.size + 1 ≤ w2.heap.size := (by have h := hb.size; (try simp at h); omega)
  clear hB hb n_1 Kr_1 HB_1
  obtain ⟨p10, p11, l1⟩ := Kn_2.out.use2
  go_wp2
  generalize hW : (w2.alloc (.cells #[.bool b1, .slice A1 n1 c1, .bool false, .slice A2 n2 c2] 26)) = w3
  have n_3 := Lib.hid (hW ▸ (n_2.out.alloc_ _))
  have d_3 := Lib.hid (hW ▸ (d_2.out.alloc_ _))
  have Kr_3 := Lib.hid (show Blk w3 (w.heap.size) 26 #[.bool false, .slice none 0 0, .bool false, .slice none 0 0] from by rw [← hW]; exact (Kr_2.out.alloc_ _))
  have Kn_3 := Lib.hid (show Blk w3 (w1.heap.size) 24 #[.bool b1, .slice A1 n1 c1] from by rw [← hW]; exact (Kn_2.out.alloc_ _))
  have Ka_3 := Lib.hid (show Blk w3 (w2.heap.size) 26 #[.bool b1, .slice A1 n1 c1, .bool false, .slice A2 n2 c2] from by rw [← hW]; exact Blk.new _ _ (by simp) _ _)
  have HB_3 := Lib.hid (show Below w.heap.size w w3 from by rw [← hW]; exact halloc (HB_2.out))
  have hs_3 : w.heap.size ≤ w3.heap.size := HB_3.out.size
  have hz_3 : w2.heap.size + 1 ≤ w3.heap.size := by rw [← hW]; simp
  clear hW n_2 d_2 Kr_2 Kn_2 HB_2 p10 p11 l1
  obtain ⟨p20, p21, p22, p23, l2⟩ := Ka_3.out.use4
  obtain ⟨p30, p31, p32, p33, l3⟩ := Kr_3.out.use4
  obtain ⟨r30, r31, r32, r33⟩ := Kr_3.out.into4
  have x0 : ((((w3.setCell ⟨w.heap.size, 0, none⟩ (.bool b1)).setCell ⟨w.heap.size, 1, none⟩ (.slice A1 n1 c1)).setCell ⟨w.heap.size, 2, none⟩ (.bool false)).setCell ⟨w.heap.size, 3, none⟩ (.slice A2 n2 c2)).cell? ⟨w2.heap.size, 0, none⟩ = some (.bool b1) := by rw [cell_far4 _ _ _ _ _ _ _ _ (by omega)]; assumption
  have x1 : ((((w3.setCell ⟨w.heap.size, 0, none⟩ (.bool b1)).setCell ⟨w.heap.size, 1, none⟩ (.slice A1 n1 c1)).setCell ⟨w.heap.size, 2, none⟩ (.bool false)).setCell ⟨w.heap.size, 3, none⟩ (.slice A2 n2 c2)).cell? ⟨w2.heap.size, 1, none⟩ = some (.slice A1 n1 c1) := by rw [cell_far4 _ _ _ _ _ _ _ _ (by omega)]; assumption
  have x2 : ((((w3.setCell ⟨w.heap.size, 0, none⟩ (.bool b1)).setCell ⟨w.heap.size, 1, none⟩ (.slice A1 n1 c1)).setCell ⟨w.heap.size, 2, none⟩ (.bool false)).setCell ⟨w.heap.size, 3, none⟩ (.slice A2 n2 c2)).cell? ⟨w2.heap.size, 2, none⟩ = some (.bool false) := by rw [cell_far4 _ _ _ _ _ _ _ _ (by omega)]; assumption
  have x3 : ((((w3.setCell ⟨w.heap.size, 0, none⟩ (.bool b1)).setCell ⟨w.heap.size, 1, none⟩ (.slice A1 n1 c1)).setCell ⟨w.heap.size, 2, none⟩ (.bool false)).setCell ⟨w.heap.size, 3, none⟩ (.slice A2 n2 c2)).cell? ⟨w2.heap.size, 3, none⟩ = some (.slice A2 n2 c2) := by rw [cell_far4 _ _ _ _ _ _ _ _ (by omega)]; assumption
  obtain ⟨p40, p41, p42, p43, l4⟩ := Ka_3.out.use4
  refine wp_region_held_drew (S := (fun w' => w'.cell? ⟨w2.heap.size, 0, none⟩ = some (.bool b1) ∧ w'.cell? ⟨w2.heap.size, 1, none⟩ = some (.slice A1 n1 c1) ∧ w'.cell? ⟨w2.heap.size, 2, none⟩ = some (.bool false) ∧ w'.cell? ⟨w2.heap.size, 3, none⟩ = some (.slice A2 n2 c2))) (by kernel_rfl) ?_ (fun hHeld => ?_)
  · (first | (refine ⟨?_, ?_, ?_, ?_⟩ <;> (first | with_reducible assumption | ((with_reducible refine Eq.trans (cell_drew _ _) ?_); with_reducible assumption) | ((rw [cell_far4 _ _ _ _ _ _ _ _ (by omega)]); with_reducible assumption) | ((repeat rw [cell_far2 _ _ _ _ _ _ (by omega)]); with_reducible assumption) | go_keep)) | trivial | go_keep)
  refine wpAnyH_take (i := 0) (v := ?_) rfl (by kernel_rfl) (by kernel_rfl) (by kernel_rfl) (fun _ _ _ h => h) (Or.inl ⟨by kernel_rfl, ?_⟩) (by assumption) ?_
  rotate_left
  · intro w hSw; (try dsimp only at hSw); go_simp <;> (try with_reducible rfl)
  (try simp only [Act.put, List.setIfInBounds_toArray, List.set_cons_zero, List.set_cons_succ, List.getElem_toArray, List.getElem_cons_zero])
  refine wpAnyH_take (i := 1) (v := ?_) rfl (by kernel_rfl) (by kernel_rfl) (by kernel_rfl) (fun _ _ _ h => h) (Or.inl ⟨by kernel_rfl, ?_⟩) (by assumption) ?_
  rotate_left
  · intro w hSw; (try dsimp only at hSw); go_simp <;> (try with_reducible rfl)
  (try simp only [Act.put, List.setIfInBounds_toArray, List.set_cons_zero, List.set_cons_succ, List.getElem_toArray, List.getElem_cons_succ, List.getElem_cons_zero])
  refine wpAnyH_take (i := 2) (v := ?_) rfl (by kernel_rfl) (by kernel_rfl) (by kernel_rfl) (fun _ _ _ h => h) (Or.inl ⟨by kernel_rfl, ?_⟩) (by assumption) ?_
  rotate_left
  · intro w hSw; (try dsimp only at hSw); go_simp <;> (try with_reducible rfl)
  (try simp only [Act.put, List.setIfInBounds_toArray, List.set_cons_zero, List.set_cons_succ, List.getElem_toArray, List.getElem_cons_succ, List.getElem_cons_zero])
  refine wpAnyH_take (i := 3) (v := undef) rfl (by kernel_rfl) (by kernel_rfl) (by kernel_rfl) (fun _ _ _ h => h) (Or.inr ⟨by kernel_rfl, rfl⟩) (by assumption) ?_
  (try simp only [Act.put, List.setIfInBounds_toArray, List.set_cons_zero, List.set_cons_succ, List.getElem_toArray, List.getElem_cons_succ, List.getElem_cons_zero])
  refine wpAnyH_take (i := 4) (v := ?_) rfl (by kernel_rfl) (by kernel_rfl) (by kernel_rfl) (fun _ _ _ h => h) (Or.inl ⟨by kernel_rfl, ?_⟩) (by assumption) ?_
  rotate_left
  · intro w hSw; (try dsimp only at hSw); go_simp <;> (try with_reducible rfl)
  (try simp only [Act.put, List.setIfInBounds_toArray, List.set_cons_zero, List.set_cons_succ, List.getElem_toArray, List.getElem_cons_succ, List.getElem_cons_zero])
  refine wpAnyH_take (i := 5) (v := ?_) rfl (by kernel_rfl) (by kernel_rfl) (by kernel_rfl) (fun _ _ _ h => h) (Or.inl ⟨by kernel_rfl, ?_⟩) (by assumption) ?_
  rotate_left
  · intro w hSw; (try dsimp only at hSw); go_simp <;> (try with_reducible rfl)
  (try simp only [Act.put, List.setIfInBounds_toArray, List.set_cons_zero, List.set_cons_succ, List.getElem_toArray, List.getElem_cons_succ, List.getElem_cons_zero])
  refine wpAnyH_take (i := 6) (v := undef) rfl (by kernel_rfl) (by kernel_rfl) (by kernel_rfl) (fun _ _ _ h => h) (Or.inr ⟨by kernel_rfl, rfl⟩) (by assumption) ?_
  (try simp only [Act.put, List.setIfInBounds_toArray, List.set_cons_zero, List.set_cons_succ, List.getElem_toArray, List.getElem_cons_succ, List.getElem_cons_zero])
  refine wpAnyH_take (i := 7) (v := undef) rfl (by kernel_rfl) (by kernel_rfl) (by kernel_rfl) (fun _ _ _ h => h) (Or.inr ⟨by kernel_rfl, rfl⟩) (by assumption) ?_
  (try simp only [Act.put, List.setIfInBounds_toArray, List.set_cons_zero, List.set_cons_succ, List.getElem_toArray, List.getElem_cons_succ, List.getElem_cons_zero])
  refine wpAnyH_take (i := 8) (v := ?_) rfl (by kernel_rfl) (by kernel_rfl) (by kernel_rfl) (fun _ _ _ h => h) (Or.inl ⟨by kernel_rfl, ?_⟩) (by assumption) ?_
  rotate_left
  · intro w hSw; (try dsimp only at hSw); go_simp <;> (try with_reducible rfl)
  (try simp only [Act.put, List.setIfInBounds_toArray, List.set_cons_zero, List.set_cons_succ, List.getElem_toArray, List.getElem_cons_succ, List.getElem_cons_zero])
  refine wpAnyH_ready (rs := [9]) (by kernel_rfl) (by simp) ?_
  refine AllReadyH.cons rfl (fun K hK => ?_) AllReadyH.nil
  go_simp
  refine hK.out _ _ ?_ (fun hHeld => ?_)
  · exact ⟨x0, x1, x2, x3⟩
  clear hK K
  (try simp only [Act.put, List.setIfInBounds_toArray, List.set_cons_zero, List.set_cons_succ, List.getElem_toArray, List.getElem_cons_succ, List.getElem_cons_zero])
  refine wpAnyH_take (i := 10) (v := ?_) rfl (by kernel_rfl) (by kernel_rfl) (by kernel_rfl) (fun _ _ _ h => h) (Or.inl ⟨by kernel_rfl, ?_⟩) (by assumption) ?_
  rotate_left
  · intro w hSw; (try dsimp only at hSw); go_simp <;> (try with_reducible rfl)
  (try simp only [Act.put, List.setIfInBounds_toArray, List.set_cons_zero, List.set_cons_succ, List.getElem_toArray, List.getElem_cons_succ, List.getElem_cons_zero])
  refine wpAnyH_done (by kernel_rfl) ?_ _
  go_wp2
  obtain ⟨WF, hWF⟩ : ∃ W, W = (((((w3.setCell ⟨w.heap.size, 0, none⟩ (.bool b1)).setCell ⟨w.heap.size, 1, none⟩ (.slice A1 n1 c1)).setCell ⟨w.heap.size, 2, none⟩ (.bool false)).setCell ⟨w.heap.size, 3, none⟩ (.slice A2 n2 c2))).drew := ⟨_, rfl⟩
  rw [← hWF]
  have kq : Blk WF (w.heap.size) 26 #[.bool b1, .slice A1 n1 c1, .bool false, .slice A2 n2 c2] := by rw [hWF]; exact Kr_3.out.own4
  have hBF : Below w.heap.size w WF := by rw [hWF]; exact (Below.set4 HB_3.out (Nat.le_refl _)).drew
  have f1 : LimI K WF (.agg #[.bool b1, .slice A1 n1 c1]) (intV s) := by rw [hWF]; exact n_3.out.other4 Kr_3.out nu nu nu nu
  have f2 : LimI K WF (.agg #[.bool false, .slice A2 n2 c2]) (numV t) := by rw [hWF]; exact d_3.out.other4 Kr_3.out nu nu nu nu
  have HE : Hid (WrPost K w WF (Ending.returned (.tuple #[.agg #[.bool b1, .slice A1 n1 c1, .bool false, .slice A2 n2 c2], .bool false])) (intV s) (numV t) false) := ⟨_, rfl, limR_mk f1 f2, hBF⟩
  obtain ⟨e0, e1, e2, e3⟩ := kq.cells4
  clear hWF
  exact bodyPost_ret (v := .tuple #[.agg #[.bool b1, .slice A1 n1 c1, .bool false, .slice A2 n2 c2], .bool false]) (by simp [results, Tryz.results109, go_sem, e0, e1, e2, e3] <;> omega) rfl HE.out

set_option maxRecDepth 100000 in
set_option maxHeartbeats 4000000 in
theorem quot_no2 (s t : ByteArray) (K : Nat) (w : World) (hs : s.size ≤ K) (ht : t.size ≤ K) (hK : K ≤ 1000) (h1 : intB s = true) (h2 : isNumB t = false) :
    Calls Tryz.prog 109 #[.string s, .string t] w fun e w' => WrPost K w w' e (intV s) (numV t) false := by
  have HI := Lib.hid h1
  have HN := Lib.hid h2
  have HS : Hid (s.size ≤ 1000) := Nat.le_trans hs hK
  have HT : Hid (t.size ≤ 1001) := Nat.le_trans ht (Nat.le_trans hK (by omega))
  have HK := Lib.hid hK
  have BN := Lib.hid (intV_lim hs)
  have BD : Hid ((numV t : Int).natAbs < 4294967296 ^ K) := numV_lim ht
  clear h1 h2 hs ht hK
  go_enter Tryz.func109, Tryz.ntmps109
  go_wp2_with fail
  refine Calls.mono (parseI_is s _ true HS.out HI.out) ?_
  rintro e w1 ⟨v, rfl, h, hb⟩
  obtain ⟨b1, A1, n1, c1, rfl, -, -, h⟩ := h.form
  replace h := h.lim (k := K) BN.out
  have hB := bun (hb)
  have Kr_1 := Lib.hid (show Blk w1 (w.heap.size) 26 #[.bool false, .slice none 0 0, .bool false, .slice none 0 0] from (Blk.new _ _ (by simp) _ _).below hb)
  have n_1 := Lib.hid (h)
  have HB_1 := Lib.hid (hB)
  have hs_1 : w.heap.size ≤ w1.heap.size := HB_1.out.size
  have hz_1 : w.heap.size + 1 ≤ w1.heap.size := (by have h := hb.size; (try simp at h); omega)
  clear hB hb 
  go_wp2_with fail
  refine Calls.mono (parse_isB t _ false HT.out HN.out) ?_
  rintro e w2 ⟨v, rfl, h, hb⟩
  obtain ⟨A2, n2, c2, rfl, -, h⟩ := isNat_form h
  replace h := (isInt_nat h).lim (k := K) BD.out
  have hB := bun (hb)
  have n_2 := Lib.hid (n_1.out.below hB)
  have Kr_2 := Lib.hid (Kr_1.out.below hB)
  have Kn_2 := Lib.hid (show Blk w2 (w1.heap.size) 24 #[.bool b1, .slice A1 n1 c1] from (Blk.new _ _ (by simp) _ _).below hb)
  have d_2 := Lib.hid (h)
  have HB_2 := Lib.hid (below_trans HB_1.out hB)
  have hs_2 : w.heap.size ≤ w2.heap.size := HB_2.out.size
  have hz_2 : w1.heap.size + 1 ≤ w2.heap.size := (by have h := hb.size; (try simp at h); omega)
  clear hB hb n_1 Kr_1 HB_1
  obtain ⟨p10, p11, l1⟩ := Kn_2.out.use2
  go_wp2
  generalize hW : (w2.alloc (.cells #[.bool b1, .slice A1 n1 c1, .bool false, .slice A2 n2 c2] 26)) = w3
  have n_3 := Lib.hid (hW ▸ (n_2.out.alloc_ _))
  have d_3 := Lib.hid (hW ▸ (d_2.out.alloc_ _))
  have Kr_3 := Lib.hid (show Blk w3 (w.heap.size) 26 #[.bool false, .slice none 0 0, .bool false, .slice none 0 0] from by rw [← hW]; exact (Kr_2.out.alloc_ _))
  have Kn_3 := Lib.hid (show Blk w3 (w1.heap.size) 24 #[.bool b1, .slice A1 n1 c1] from by rw [← hW]; exact (Kn_2.out.alloc_ _))
  have Ka_3 := Lib.hid (show Blk w3 (w2.heap.size) 26 #[.bool b1, .slice A1 n1 c1, .bool false, .slice A2 n2 c2] from by rw [← hW]; exact Blk.new _ _ (by simp) _ _)
  have HB_3 := Lib.hid (show Below w.heap.size w w3 from by rw [← hW]; exact halloc (HB_2.out))
  have hs_3 : w.heap.size ≤ w3.heap.size := HB_3.out.size
  have hz_3 : w2.heap.size + 1 ≤ w3.heap.size := by rw [← hW]; simp
  clear hW n_2 d_2 Kr_2 Kn_2 HB_2 p10 p11 l1
  obtain ⟨p20, p21, p22, p23, l2⟩ := Ka_3.out.use4
  obtain ⟨p30, p31, p32, p33, l3⟩ := Kr_3.out.use4
  obtain ⟨r30, r31, r32, r33⟩ := Kr_3.out.into4
  have x0 : ((((w3.setCell ⟨w.heap.size, 0, none⟩ (.bool b1)).setCell ⟨w.heap.size, 1, none⟩ (.slice A1 n1 c1)).setCell ⟨w.heap.size, 2, none⟩ (.bool false)).setCell ⟨w.heap.size, 3, none⟩ (.slice A2 n2 c2)).cell? ⟨w2.heap.size, 0, none⟩ = some (.bool b1) := by rw [cell_far4 _ _ _ _ _ _ _ _ (by omega)]; assumption
  have x1 : ((((w3.setCell ⟨w.heap.size, 0, none⟩ (.bool b1)).setCell ⟨w.heap.size, 1, none⟩ (.slice A1 n1 c1)).setCell ⟨w.heap.size, 2, none⟩ (.bool false)).setCell ⟨w.heap.size, 3, none⟩ (.slice A2 n2 c2)).cell? ⟨w2.heap.size, 1, none⟩ = some (.slice A1 n1 c1) := by rw [cell_far4 _ _ _ _ _ _ _ _ (by omega)]; assumption
  have x2 : ((((w3.setCell ⟨w.heap.size, 0, none⟩ (.bool b1)).setCell ⟨w.heap.size, 1, none⟩ (.slice A1 n1 c1)).setCell ⟨w.heap.size, 2, none⟩ (.bool false)).setCell ⟨w.heap.size, 3, none⟩ (.slice A2 n2 c2)).cell? ⟨w2.heap.size, 2, none⟩ = some (.bool false) := by rw [cell_far4 _ _ _ _ _ _ _ _ (by omega)]; assumption
  have x3 : ((((w3.setCell ⟨w.heap.size, 0, none⟩ (.bool b1)).setCell ⟨w.heap.size, 1, none⟩ (.slice A1 n1 c1)).setCell ⟨w.heap.size, 2, none⟩ (.bool false)).setCell ⟨w.heap.size, 3, none⟩ (.slice A2 n2 c2)).cell? ⟨w2.heap.size, 3, none⟩ = some (.slice A2 n2 c2) := by rw [cell_far4 _ _ _ _ _ _ _ _ (by omega)]; assumption
  obtain ⟨p40, p41, p42, p43, l4⟩ := Ka_3.out.use4
  refine wp_region_held_drew (S := (fun w' => w'.cell? ⟨w2.heap.size, 0, none⟩ = some (.bool b1) ∧ w'.cell? ⟨w2.heap.size, 1, none⟩ = some (.slice A1 n1 c1) ∧ w'.cell? ⟨w2.heap.size, 2, none⟩ = some (.bool false) ∧ w'.cell? ⟨w2.heap.size, 3, none⟩ = some (.slice A2 n2 c2))) (by kernel_rfl) ?_ (fun hHeld => ?_)
  · (first | (refine ⟨?_, ?_, ?_, ?_⟩ <;> (first | with_reducible assumption | ((with_reducible refine Eq.trans (cell_drew _ _) ?_); with_reducible assumption) | ((rw [cell_far4 _ _ _ _ _ _ _ _ (by omega)]); with_reducible assumption) | ((repeat rw [cell_far2 _ _ _ _ _ _ (by omega)]); with_reducible assumption) | go_keep)) | trivial | go_keep)
  refine wpAnyH_take (i := 0) (v := ?_) rfl (by kernel_rfl) (by kernel_rfl) (by kernel_rfl) (fun _ _ _ h => h) (Or.inl ⟨by kernel_rfl, ?_⟩) (by assumption) ?_
  rotate_left
  · intro w hSw; (try dsimp only at hSw); go_simp <;> (try with_reducible rfl)
  (try simp only [Act.put, List.setIfInBounds_toArray, List.set_cons_zero, List.set_cons_succ, List.getElem_toArray, List.getElem_cons_zero])
  refine wpAnyH_take (i := 1) (v := ?_) rfl (by kernel_rfl) (by kernel_rfl) (by kernel_rfl) (fun _ _ _ h => h) (Or.inl ⟨by kernel_rfl, ?_⟩) (by assumption) ?_
  rotate_left
  · intro w hSw; (try dsimp only at hSw); go_simp <;> (try with_reducible rfl)
  (try simp only [Act.put, List.setIfInBounds_toArray, List.set_cons_zero, List.set_cons_succ, List.getElem_toArray, List.getElem_cons_succ, List.getElem_cons_zero])
  refine wpAnyH_take (i := 2) (v := ?_) rfl (by kernel_rfl) (by kernel_rfl) (by kernel_rfl) (fun _ _ _ h => h) (Or.inl ⟨by kernel_rfl, ?_⟩) (by assumption) ?_
  rotate_left
  · intro w hSw; (try dsimp only at hSw); go_simp <;> (try with_reducible rfl)
  (try simp only [Act.put, List.setIfInBounds_toArray, List.set_cons_zero, List.set_cons_succ, List.getElem_toArray, List.getElem_cons_succ, List.getElem_cons_zero])
  refine wpAnyH_take (i := 3) (v := ?_) rfl (by kernel_rfl) (by kernel_rfl) (by kernel_rfl) (fun _ _ _ h => h) (Or.inl ⟨by kernel_rfl, ?_⟩) (by assumption) ?_
  rotate_left
  · intro w hSw; (try dsimp only at hSw); go_simp <;> (try with_reducible rfl)
  (try simp only [Act.put, List.setIfInBounds_toArray, List.set_cons_zero, List.set_cons_succ, List.getElem_toArray, List.getElem_cons_succ, List.getElem_cons_zero])
  refine wpAnyH_take (i := 4) (v := ?_) rfl (by kernel_rfl) (by kernel_rfl) (by kernel_rfl) (fun _ _ _ h => h) (Or.inl ⟨by kernel_rfl, ?_⟩) (by assumption) ?_
  rotate_left
  · intro w hSw; (try dsimp only at hSw); go_simp <;> (try with_reducible rfl)
  (try simp only [Act.put, List.setIfInBounds_toArray, List.set_cons_zero, List.set_cons_succ, List.getElem_toArray, List.getElem_cons_succ, List.getElem_cons_zero])
  refine wpAnyH_take (i := 5) (v := ?_) rfl (by kernel_rfl) (by kernel_rfl) (by kernel_rfl) (fun _ _ _ h => h) (Or.inl ⟨by kernel_rfl, ?_⟩) (by assumption) ?_
  rotate_left
  · intro w hSw; (try dsimp only at hSw); go_simp <;> (try with_reducible rfl)
  (try simp only [Act.put, List.setIfInBounds_toArray, List.set_cons_zero, List.set_cons_succ, List.getElem_toArray, List.getElem_cons_succ, List.getElem_cons_zero])
  refine wpAnyH_take (i := 6) (v := undef) rfl (by kernel_rfl) (by kernel_rfl) (by kernel_rfl) (fun _ _ _ h => h) (Or.inr ⟨by kernel_rfl, rfl⟩) (by assumption) ?_
  (try simp only [Act.put, List.setIfInBounds_toArray, List.set_cons_zero, List.set_cons_succ, List.getElem_toArray, List.getElem_cons_succ, List.getElem_cons_zero])
  refine wpAnyH_take (i := 7) (v := undef) rfl (by kernel_rfl) (by kernel_rfl) (by kernel_rfl) (fun _ _ _ h => h) (Or.inr ⟨by kernel_rfl, rfl⟩) (by assumption) ?_
  (try simp only [Act.put, List.setIfInBounds_toArray, List.set_cons_zero, List.set_cons_succ, List.getElem_toArray, List.getElem_cons_succ, List.getElem_cons_zero])
  refine wpAnyH_take (i := 8) (v := ?_) rfl (by kernel_rfl) (by kernel_rfl) (by kernel_rfl) (fun _ _ _ h => h) (Or.inl ⟨by kernel_rfl, ?_⟩) (by assumption) ?_
  rotate_left
  · intro w hSw; (try dsimp only at hSw); go_simp <;> (try with_reducible rfl)
  (try simp only [Act.put, List.setIfInBounds_toArray, List.set_cons_zero, List.set_cons_succ, List.getElem_toArray, List.getElem_cons_succ, List.getElem_cons_zero])
  refine wpAnyH_ready (rs := [9]) (by kernel_rfl) (by simp) ?_
  refine AllReadyH.cons rfl (fun K hK => ?_) AllReadyH.nil
  go_simp
  refine hK.out _ _ ?_ (fun hHeld => ?_)
  · exact ⟨x0, x1, x2, x3⟩
  clear hK K
  (try simp only [Act.put, List.setIfInBounds_toArray, List.set_cons_zero, List.set_cons_succ, List.getElem_toArray, List.getElem_cons_succ, List.getElem_cons_zero])
  refine wpAnyH_take (i := 10) (v := ?_) rfl (by kernel_rfl) (by kernel_rfl) (by kernel_rfl) (fun _ _ _ h => h) (Or.inl ⟨by kernel_rfl, ?_⟩) (by assumption) ?_
  rotate_left
  · intro w hSw; (try dsimp only at hSw); go_simp <;> (try with_reducible rfl)
  (try simp only [Act.put, List.setIfInBounds_toArray, List.set_cons_zero, List.set_cons_succ, List.getElem_toArray, List.getElem_cons_succ, List.getElem_cons_zero])
  refine wpAnyH_done (by kernel_rfl) ?_ _
  go_wp2
  obtain ⟨WF, hWF⟩ : ∃ W, W = (((((w3.setCell ⟨w.heap.size, 0, none⟩ (.bool b1)).setCell ⟨w.heap.size, 1, none⟩ (.slice A1 n1 c1)).setCell ⟨w.heap.size, 2, none⟩ (.bool false)).setCell ⟨w.heap.size, 3, none⟩ (.slice A2 n2 c2))).drew := ⟨_, rfl⟩
  rw [← hWF]
  have kq : Blk WF (w.heap.size) 26 #[.bool b1, .slice A1 n1 c1, .bool false, .slice A2 n2 c2] := by rw [hWF]; exact Kr_3.out.own4
  have hBF : Below w.heap.size w WF := by rw [hWF]; exact (Below.set4 HB_3.out (Nat.le_refl _)).drew
  have f1 : LimI K WF (.agg #[.bool b1, .slice A1 n1 c1]) (intV s) := by rw [hWF]; exact n_3.out.other4 Kr_3.out nu nu nu nu
  have f2 : LimI K WF (.agg #[.bool false, .slice A2 n2 c2]) (numV t) := by rw [hWF]; exact d_3.out.other4 Kr_3.out nu nu nu nu
  have HE : Hid (WrPost K w WF (Ending.returned (.tuple #[.agg #[.bool b1, .slice A1 n1 c1, .bool false, .slice A2 n2 c2], .bool false])) (intV s) (numV t) false) := ⟨_, rfl, limR_mk f1 f2, hBF⟩
  obtain ⟨e0, e1, e2, e3⟩ := kq.cells4
  clear hWF
  exact bodyPost_ret (v := .tuple #[.agg #[.bool b1, .slice A1 n1 c1, .bool false, .slice A2 n2 c2], .bool false]) (by simp [results, Tryz.results109, go_sem, e0, e1, e2, e3] <;> omega) rfl HE.out

set_option maxRecDepth 100000 in
set_option maxHeartbeats 4000000 in
theorem quot_no3 (s t : ByteArray) (K : Nat) (w : World) (hs : s.size ≤ K) (ht : t.size ≤ K) (hK : K ≤ 1000) (h1 : intB s = true) (h2 : isNumB t = true) (h3 : numV t = 0) :
    Calls Tryz.prog 109 #[.string s, .string t] w fun e w' => WrPost K w w' e (intV s) (numV t) false := by
  have HI := Lib.hid h1
  have HN := Lib.hid h2
  have HS : Hid (s.size ≤ 1000) := Nat.le_trans hs hK
  have HT : Hid (t.size ≤ 1001) := Nat.le_trans ht (Nat.le_trans hK (by omega))
  have HK := Lib.hid hK
  have BN := Lib.hid (intV_lim hs)
  have BD : Hid ((numV t : Int).natAbs < 4294967296 ^ K) := numV_lim ht
  have HP : Hid (((numV t : Nat) : Int) ≤ 0) := by show _ ≤ _; omega
  clear h1 h2 hs ht hK h3
  go_enter Tryz.func109, Tryz.ntmps109
  go_wp2_with fail
  refine Calls.mono (parseI_is s _ true HS.out HI.out) ?_
  rintro e w1 ⟨v, rfl, h, hb⟩
  obtain ⟨b1, A1, n1, c1, rfl, -, -, h⟩ := h.form
  replace h := h.lim (k := K) BN.out
  have hB := bun (hb)
  have Kr_1 := Lib.hid (show Blk w1 (w.heap.size) 26 #[.bool false, .slice none 0 0, .bool false, .slice none 0 0] from (Blk.new _ _ (by simp) _ _).below hb)
  have n_1 := Lib.hid (h)
  have HB_1 := Lib.hid (hB)
  have hs_1 : w.heap.size ≤ w1.heap.size := HB_1.out.size
  have hz_1 : w.heap.size + 1 ≤ w1.heap.size := (by have h := hb.size; (try simp at h); omega)
  clear hB hb 
  go_wp2_with fail
  refine Calls.mono (parse_isB t _ true HT.out HN.out) ?_
  rintro e w2 ⟨v, rfl, h, hb⟩
  obtain ⟨A2, n2, c2, rfl, -, h⟩ := isNat_form h
  replace h := (isInt_nat h).lim (k := K) BD.out
  have hB := bun (hb)
  have n_2 := Lib.hid (n_1.out.below hB)
  have Kr_2 := Lib.hid (Kr_1.out.below hB)
  have Kn_2 := Lib.hid (show Blk w2 (w1.heap.size) 24 #[.bool b1, .slice A1 n1 c1] from (Blk.new _ _ (by simp) _ _).below hb)
  have d_2 := Lib.hid (h)
  have HB_2 := Lib.hid (below_trans HB_1.out hB)
  have hs_2 : w.heap.size ≤ w2.heap.size := HB_2.out.size
  have hz_2 : w1.heap.size + 1 ≤ w2.heap.size := (by have h := hb.size; (try simp at h); omega)
  clear hB hb n_1 Kr_1 HB_1
  obtain ⟨p10, p11, l1⟩ := Kn_2.out.use2
  go_wp2
  generalize hW : (w2.alloc (.cells #[.bool b1, .slice A1 n1 c1, .bool false, .slice A2 n2 c2] 26)) = w3
  have n_3 := Lib.hid (hW ▸ (n_2.out.alloc_ _))
  have d_3 := Lib.hid (hW ▸ (d_2.out.alloc_ _))
  have Kr_3 := Lib.hid (show Blk w3 (w.heap.size) 26 #[.bool false, .slice none 0 0, .bool false, .slice none 0 0] from by rw [← hW]; exact (Kr_2.out.alloc_ _))
  have Kn_3 := Lib.hid (show Blk w3 (w1.heap.size) 24 #[.bool b1, .slice A1 n1 c1] from by rw [← hW]; exact (Kn_2.out.alloc_ _))
  have Ka_3 := Lib.hid (show Blk w3 (w2.heap.size) 26 #[.bool b1, .slice A1 n1 c1, .bool false, .slice A2 n2 c2] from by rw [← hW]; exact Blk.new _ _ (by simp) _ _)
  have HB_3 := Lib.hid (show Below w.heap.size w w3 from by rw [← hW]; exact halloc (HB_2.out))
  have hs_3 : w.heap.size ≤ w3.heap.size := HB_3.out.size
  have hz_3 : w2.heap.size + 1 ≤ w3.heap.size := by rw [← hW]; simp
  clear hW n_2 d_2 Kr_2 Kn_2 HB_2 p10 p11 l1
  obtain ⟨p20, p21, p22, p23, l2⟩ := Ka_3.out.use4
  have tok0 : True := trivial
  go_region_held3 (fun w' => w'.cell? ⟨w2.heap.size, 0, none⟩ = some (.bool b1) ∧ w'.cell? ⟨w2.heap.size, 1, none⟩ = some (.slice A1 n1 c1) ∧ w'.cell? ⟨w2.heap.size, 2, none⟩ = some (.bool false) ∧ w'.cell? ⟨w2.heap.size, 3, none⟩ = some (.slice A2 n2 c2)) (first | (refine ⟨?_, ?_, ?_, ?_⟩ <;> (first | with_reducible assumption | ((with_reducible refine Eq.trans (cell_drew _ _) ?_); with_reducible assumption) | ((rw [cell_far4 _ _ _ _ _ _ _ _ (by omega)]); with_reducible assumption) | ((repeat rw [cell_far2 _ _ _ _ _ _ (by omega)]); with_reducible assumption) | go_keep)) | trivial | go_keep)
    (first
      | (go_at_call 16; have _t := tok0; clear _t tok0; ((with_reducible refine Calls.mono (may_false _ _ _ _ _ _ _ _ _ K (numV t) (by first | exact d_3.out | exact d_3.out.drew_ | exact d_3.out.alloc_ _ | exact (d_3.out.alloc_ _).drew_) (by have := HK.out; omega) HP.out) ?_)); rintro e w4 ⟨rfl, hb⟩; have hB := (show Below w3.heap.size w3 w4 from by first | exact hb | exact bundrew hb | exact bun hb | exact bundrew (bun hb) | exact bun (bundrew hb)); have n_4 := Lib.hid (n_3.out.below hB); have d_4 := Lib.hid (d_3.out.below hB); have Kr_4 := Lib.hid (Kr_3.out.below hB); have Kn_4 := Lib.hid (Kn_3.out.below hB); have Ka_4 := Lib.hid (Ka_3.out.below hB); have HB_4 := Lib.hid (below_trans HB_3.out hB); have hs_4 : w.heap.size ≤ w4.heap.size := HB_4.out.size; have hz_4 : w3.heap.size + 0 ≤ w4.heap.size := (by have h := hb.size; (try simp at h); omega); clear hB hb n_3 d_3 Kr_3 Kn_3 Ka_3 HB_3 p20 p21 p22 p23 l2; obtain ⟨p30, p31, p32, p33, l3⟩ := Ka_4.out.use4; obtain ⟨p40, p41, p42, p43, l4⟩ := Kr_4.out.use4; obtain ⟨r40, r41, r42, r43⟩ := Kr_4.out.into4))
  go_wp2
  obtain ⟨WF, hWF⟩ : ∃ W, W = ((((w4.setCell ⟨w.heap.size, 0, none⟩ (.bool b1)).setCell ⟨w.heap.size, 1, none⟩ (.slice A1 n1 c1)).setCell ⟨w.heap.size, 2, none⟩ (.bool false)).setCell ⟨w.heap.size, 3, none⟩ (.slice A2 n2 c2)) := ⟨_, rfl⟩
  rw [← hWF]
  have kq : Blk WF (w.heap.size) 26 #[.bool b1, .slice A1 n1 c1, .bool false, .slice A2 n2 c2] := by rw [hWF]; exact Kr_4.out.own4
  have hBF : Below w.heap.size w WF := by rw [hWF]; exact Below.set4 (HB_4.out) (by first | omega | (simp; omega) | simp)
  have f1 : LimI K WF (.agg #[.bool b1, .slice A1 n1 c1]) (intV s) := by rw [hWF]; exact n_4.out.other4 Kr_4.out nu nu nu nu
  have f2 : LimI K WF (.agg #[.bool false, .slice A2 n2 c2]) (numV t) := by rw [hWF]; exact d_4.out.other4 Kr_4.out nu nu nu nu
  have HE : Hid (WrPost K w WF (Ending.returned (.tuple #[.agg #[.bool b1, .slice A1 n1 c1, .bool false, .slice A2 n2 c2], .bool false])) (intV s) (numV t) false) := ⟨_, rfl, limR_mk f1 f2, hBF⟩
  obtain ⟨e0, e1, e2, e3⟩ := kq.cells4
  clear hWF
  exact bodyPost_ret (v := .tuple #[.agg #[.bool b1, .slice A1 n1 c1, .bool false, .slice A2 n2 c2], .bool false]) (by simp [results, Tryz.results109, go_sem, e0, e1, e2, e3] <;> omega) rfl HE.out

theorem places_no (t : ByteArray) (w : World) (hs : t.size ≤ 1000) (h : ¬ (0 < t.size ∧ Dg t.data.toList)) :
    Calls Tryz.prog 139 #[.string t] w fun e w' => ParsePost w w' e false 0 := by
  have D := fun w => Lib.hid (trimZ t w)
  have hsz := tailZ_size t
  by_cases h0 : t.size = 0
  · have hT1 : ((tailZ t).toList == []) = true := by
      rw [beq_iff_eq, Lib.toList_data]
      have : (tailZ t).size = 0 := by omega
      rw [Lib.size_eq] at this
      exact List.eq_nil_of_length_eq_zero this
    have hS1 : (t.toList == []) = true := by
      rw [beq_iff_eq, Lib.toList_data]
      rw [Lib.size_eq] at h0
      exact List.eq_nil_of_length_eq_zero h0
    generalize tailZ t = T at *
    clear h h0 hsz
    go_enter Tryz.func139, Tryz.ntmps139
    go_wp2_with fail
    refine (D _).out.mono ?_
    rintro e w1 ⟨rfl, rfl⟩
    clear D
    go_wp2
    go_ret2
    exact ⟨_, by simp, isNat_nil _, Below.refl _ _⟩
  · have hnd : ¬ Dg t.data.toList := fun hd => h ⟨by omega, hd⟩
    have hn : ¬ IsNum (tailZ t) := fun hN => hnd fun c hc => by
      have hd := isNum_dg hN
      rw [tailZ_list] at hd
      rcases mem_drop t.data.toList c hc with rfl | h
      · decide
      · exact hd c h
    have hne : (tailZ t).size ≠ 0 := fun e => hnd fun c hc => by
      have e1 := tailZ_list t
      rw [Lib.size_eq] at e
      rw [List.eq_nil_of_length_eq_zero e] at e1
      rcases mem_drop t.data.toList c hc with rfl | h
      · decide
      · rw [← e1] at h; cases h
    have hT1 : ((tailZ t).toList == []) = false := by
      rw [beq_eq_false_iff_ne, Lib.toList_data]
      intro e
      rw [Lib.size_eq, e] at hne
      exact hne rfl
    obtain ⟨n1, n2⟩ := num_no hn
    have E := Lib.hid (parse_isB (tailZ t) w _ (by omega) n1)
    rw [n2] at E
    generalize tailZ t = T at *
    clear h h0 hsz hnd hn hne n1 n2
    go_enter Tryz.func139, Tryz.ntmps139
    go_wp2_with fail
    refine (D _).out.mono ?_
    rintro e w1 ⟨rfl, rfl⟩
    clear D
    go_wp2_with fail
    refine E.out.mono ?_
    rintro e w2 ⟨v, rfl, h, hb⟩
    obtain ⟨A1, n1, c1, rfl, -, h⟩ := isNat_form h
    go_wp2
    go_ret2
    exact ⟨_, rfl, h, hb⟩

set_option maxRecDepth 100000 in
set_option maxHeartbeats 4000000 in
theorem dec_no1 (hd t : ByteArray) (K : Nat) (w : World) (hh : hd.size ≤ 1000) (h1 : isNumB (digitsOf hd) = false) (P : Nat) (bb : Bool) (hPl : ∀ w, Calls Tryz.prog 139 #[.string t] w fun e w' => ParsePost w w' e bb P) :
    Calls Tryz.prog 110 #[.string hd, .string t] w fun e w' => WrPost K w w' e 0 0 false := by
  have HM := fun w => Lib.hid (cutMinus hd w (by omega))
  have hdh := digitsOf_size hd
  have HN := fun w => Lib.hid (parse_isB (digitsOf hd) w false (by omega) h1)
  have HPl := fun w => Lib.hid (hPl w)
  generalize numV (digitsOf hd) = N at *
  generalize digitsOf hd = D0 at *
  generalize minusB hd = mb at *
  clear h1 hPl hdh hh
  go_enter Tryz.func110, Tryz.ntmps110
  go_wp2_with fail
  refine Calls.mono ((HM _).out) ?_
  rintro e w1 ⟨rfl, hb⟩
  have hB := bun (hb)
  have Kr_1 := Lib.hid (show Blk w1 (w.heap.size) 26 #[.bool false, .slice none 0 0, .bool false, .slice none 0 0] from (Blk.new _ _ (by simp) _ _).below hb)
  have HB_1 := Lib.hid (hB)
  have hs_1 : w.heap.size ≤ w1.heap.size := HB_1.out.size
  have hz_1 : w.heap.size + 1 ≤ w1.heap.size := (by have h := hb.size; (try simp at h); omega)
  clear hB hb 
  go_wp2_with fail
  refine Calls.mono ((HN _).out) ?_
  rintro e w2 ⟨v, rfl, h, hb⟩
  obtain ⟨A2, n2, c2, rfl, -, h⟩ := isNat_form h
  have hB := hb
  have Kr_2 := Lib.hid (Kr_1.out.below hB)
  have HB_2 := Lib.hid (below_trans HB_1.out hB)
  have hs_2 : w.heap.size ≤ w2.heap.size := HB_2.out.size
  have hz_2 : w1.heap.size + 0 ≤ w2.heap.size := (by have h := hb.size; (try simp at h); omega)
  clear hB hb Kr_1 HB_1
  go_wp2_with fail
  refine Calls.mono ((HPl _).out) ?_
  rintro e w3 ⟨v, rfl, h, hb⟩
  obtain ⟨A3, n3, c3, rfl, -, h⟩ := isNat_form h
  have hB := hb
  have Kr_3 := Lib.hid (Kr_2.out.below hB)
  have HB_3 := Lib.hid (below_trans HB_2.out hB)
  have hs_3 : w.heap.size ≤ w3.heap.size := HB_3.out.size
  have hz_3 : w2.heap.size + 0 ≤ w3.heap.size := (by have h := hb.size; (try simp at h); omega)
  clear hB hb Kr_2 HB_2
  obtain ⟨p10, p11, p12, p13, l1⟩ := Kr_3.out.use4
  obtain ⟨p20, p21, p22, p23, l2⟩ := Kr_3.out.use4
  obtain ⟨r20, r21, r22, r23⟩ := Kr_3.out.into4
  go_wp2
  obtain ⟨WF, hWF⟩ : ∃ W, W = ((((w3.setCell ⟨w.heap.size, 0, none⟩ (.bool false)).setCell ⟨w.heap.size, 1, none⟩ (.slice none 0 0)).setCell ⟨w.heap.size, 2, none⟩ (.bool false)).setCell ⟨w.heap.size, 3, none⟩ (.slice none 0 0)) := ⟨_, rfl⟩
  rw [← hWF]
  have kq : Blk WF (w.heap.size) 26 #[.bool false, .slice none 0 0, .bool false, .slice none 0 0] := by rw [hWF]; exact Kr_3.out.own4
  have hBF : Below w.heap.size w WF := by rw [hWF]; exact Below.set4 (HB_3.out) (by first | omega | (simp; omega) | simp)
  have HE : Hid (WrPost K w WF (Ending.returned (.tuple #[.agg #[.bool false, .slice none 0 0, .bool false, .slice none 0 0], .bool false])) 0 0 false) := ⟨_, rfl, limR_mk ((limI_zero _).more (Nat.zero_le _)) ((limI_zero _).more (Nat.zero_le _)), hBF⟩
  obtain ⟨e0, e1, e2, e3⟩ := kq.cells4
  clear hWF
  exact bodyPost_ret (v := .tuple #[.agg #[.bool false, .slice none 0 0, .bool false, .slice none 0 0], .bool false]) (by simp [results, Tryz.results110, go_sem, e0, e1, e2, e3] <;> omega) rfl HE.out

set_option maxRecDepth 100000 in
set_option maxHeartbeats 4000000 in
theorem dec_no2 (hd t : ByteArray) (K : Nat) (w : World) (hh : hd.size ≤ 1000) (h1 : isNumB (digitsOf hd) = true) (P : Nat) (hPl : ∀ w, Calls Tryz.prog 139 #[.string t] w fun e w' => ParsePost w w' e false P) :
    Calls Tryz.prog 110 #[.string hd, .string t] w fun e w' => WrPost K w w' e 0 0 false := by
  have HM := fun w => Lib.hid (cutMinus hd w (by omega))
  have hdh := digitsOf_size hd
  have HN := fun w => Lib.hid (parse_isB (digitsOf hd) w true (by omega) h1)
  have HPl := fun w => Lib.hid (hPl w)
  generalize numV (digitsOf hd) = N at *
  generalize digitsOf hd = D0 at *
  generalize minusB hd = mb at *
  clear h1 hPl hdh hh
  go_enter Tryz.func110, Tryz.ntmps110
  go_wp2_with fail
  refine Calls.mono ((HM _).out) ?_
  rintro e w1 ⟨rfl, hb⟩
  have hB := bun (hb)
  have Kr_1 := Lib.hid (show Blk w1 (w.heap.size) 26 #[.bool false, .slice none 0 0, .bool false, .slice none 0 0] from (Blk.new _ _ (by simp) _ _).below hb)
  have HB_1 := Lib.hid (hB)
  have hs_1 : w.heap.size ≤ w1.heap.size := HB_1.out.size
  have hz_1 : w.heap.size + 1 ≤ w1.heap.size := (by have h := hb.size; (try simp at h); omega)
  clear hB hb 
  go_wp2_with fail
  refine Calls.mono ((HN _).out) ?_
  rintro e w2 ⟨v, rfl, h, hb⟩
  obtain ⟨A2, n2, c2, rfl, -, h⟩ := isNat_form h
  have hB := hb
  have Kr_2 := Lib.hid (Kr_1.out.below hB)
  have HB_2 := Lib.hid (below_trans HB_1.out hB)
  have hs_2 : w.heap.size ≤ w2.heap.size := HB_2.out.size
  have hz_2 : w1.heap.size + 0 ≤ w2.heap.size := (by have h := hb.size; (try simp at h); omega)
  clear hB hb Kr_1 HB_1
  go_wp2_with fail
  refine Calls.mono ((HPl _).out) ?_
  rintro e w3 ⟨v, rfl, h, hb⟩
  obtain ⟨A3, n3, c3, rfl, -, h⟩ := isNat_form h
  have hB := hb
  have Kr_3 := Lib.hid (Kr_2.out.below hB)
  have HB_3 := Lib.hid (below_trans HB_2.out hB)
  have hs_3 : w.heap.size ≤ w3.heap.size := HB_3.out.size
  have hz_3 : w2.heap.size + 0 ≤ w3.heap.size := (by have h := hb.size; (try simp at h); omega)
  clear hB hb Kr_2 HB_2
  obtain ⟨p10, p11, p12, p13, l1⟩ := Kr_3.out.use4
  obtain ⟨p20, p21, p22, p23, l2⟩ := Kr_3.out.use4
  obtain ⟨r20, r21, r22, r23⟩ := Kr_3.out.into4
  go_wp2
  obtain ⟨WF, hWF⟩ : ∃ W, W = ((((w3.setCell ⟨w.heap.size, 0, none⟩ (.bool false)).setCell ⟨w.heap.size, 1, none⟩ (.slice none 0 0)).setCell ⟨w.heap.size, 2, none⟩ (.bool false)).setCell ⟨w.heap.size, 3, none⟩ (.slice none 0 0)) := ⟨_, rfl⟩
  rw [← hWF]
  have kq : Blk WF (w.heap.size) 26 #[.bool false, .slice none 0 0, .bool false, .slice none 0 0] := by rw [hWF]; exact Kr_3.out.own4
  have hBF : Below w.heap.size w WF := by rw [hWF]; exact Below.set4 (HB_3.out) (by first | omega | (simp; omega) | simp)
  have HE : Hid (WrPost K w WF (Ending.returned (.tuple #[.agg #[.bool false, .slice none 0 0, .bool false, .slice none 0 0], .bool false])) 0 0 false) := ⟨_, rfl, limR_mk ((limI_zero _).more (Nat.zero_le _)) ((limI_zero _).more (Nat.zero_le _)), hBF⟩
  obtain ⟨e0, e1, e2, e3⟩ := kq.cells4
  clear hWF
  exact bodyPost_ret (v := .tuple #[.agg #[.bool false, .slice none 0 0, .bool false, .slice none 0 0], .bool false]) (by simp [results, Tryz.results110, go_sem, e0, e1, e2, e3] <;> omega) rfl HE.out

set_option maxRecDepth 100000 in
set_option maxHeartbeats 4000000 in
theorem written_n (s : ByteArray) (K : Nat) (ok : Bool) (w : World) (hs : s.size ≤ K) (hK : K ≤ 1000) (h1 : 1 ≤ K) (h0 : Lib.indexByte s.data.toList 47 = -1) (h2 : Lib.indexByte s.data.toList 46 = -1) (hok : intB s = ok) :
    Calls Tryz.prog 76 #[.string s] w fun e w' => WrPost K w w' e (intV s) 1 ok := by
  have HA := fun w => Lib.hid (cut_no s 47 w h0)
  have HC := fun w => Lib.hid (cut_no s 46 w h2)
  have HQ := fun w => Lib.hid (parseI_is s w ok (by omega) hok)
  have BN := Lib.hid (intV_lim hs)
  have B1 : Hid ((1 : Int).natAbs < 4294967296 ^ K) := Nat.one_lt_pow (by omega) (by decide)
  generalize intV s = X at *
  clear h0 h2 hok hs
  go_enter Tryz.func76, Tryz.ntmps76
  go_wp2_with fail
  refine Calls.mono ((HA _).out) ?_
  rintro e w1 ⟨rfl, hb⟩
  have hB := bun (hb)
  have Kr_1 := Lib.hid (show Blk w1 (w.heap.size) 26 #[.bool false, .slice none 0 0, .bool false, .slice none 0 0] from (Blk.new _ _ (by simp) _ _).below hb)
  have HB_1 := Lib.hid (hB)
  have hs_1 : w.heap.size ≤ w1.heap.size := HB_1.out.size
  have hz_1 : w.heap.size + 1 ≤ w1.heap.size := (by have h := hb.size; (try simp at h); omega)
  clear hB hb 
  go_wp2_with fail
  refine Calls.mono ((HC _).out) ?_
  rintro e w2 ⟨rfl, hb⟩
  have hB := hb
  have Kr_2 := Lib.hid (Kr_1.out.below hB)
  have HB_2 := Lib.hid (below_trans HB_1.out hB)
  have hs_2 : w.heap.size ≤ w2.heap.size := HB_2.out.size
  have hz_2 : w1.heap.size + 0 ≤ w2.heap.size := (by have h := hb.size; (try simp at h); omega)
  clear hB hb Kr_1 HB_1
  go_wp2_with fail
  refine Calls.mono ((HQ _).out) ?_
  rintro e w3 ⟨v, rfl, h, hb⟩
  obtain ⟨b3, A3, n3, c3, rfl, -, -, h⟩ := h.form
  replace h := h.lim (k := K) BN.out
  have hB := hb
  have Kr_3 := Lib.hid (Kr_2.out.below hB)
  have n_3 := Lib.hid (h)
  have HB_3 := Lib.hid (below_trans HB_2.out hB)
  have hs_3 : w.heap.size ≤ w3.heap.size := HB_3.out.size
  have hz_3 : w2.heap.size + 0 ≤ w3.heap.size := (by have h := hb.size; (try simp at h); omega)
  clear hB hb Kr_2 HB_2
  go_wp2
  generalize hW : (w3.alloc (.cells #[.bool b3, .slice A3 n3 c3] 24)) = w4
  have n_4 := Lib.hid (hW ▸ (n_3.out.alloc_ _))
  have Kr_4 := Lib.hid (show Blk w4 (w.heap.size) 26 #[.bool false, .slice none 0 0, .bool false, .slice none 0 0] from by rw [← hW]; exact (Kr_3.out.alloc_ _))
  have Kn_4 := Lib.hid (show Blk w4 (w3.heap.size) 24 #[.bool b3, .slice A3 n3 c3] from by rw [← hW]; exact Blk.new _ _ (by simp) _ _)
  have HB_4 := Lib.hid (show Below w.heap.size w w4 from by rw [← hW]; exact halloc (HB_3.out))
  have hs_4 : w.heap.size ≤ w4.heap.size := HB_4.out.size
  have hz_4 : w3.heap.size + 1 ≤ w4.heap.size := by rw [← hW]; simp
  clear hW n_3 Kr_3 HB_3
  obtain ⟨p10, p11, l1⟩ := Kn_4.out.use2
  have tok0 : True := trivial
  go_region_held3 (fun w' => w'.cell? ⟨w3.heap.size, 0, none⟩ = some (.bool b3) ∧ w'.cell? ⟨w3.heap.size, 1, none⟩ = some (.slice A3 n3 c3)) (first | (refine ⟨?_, ?_⟩ <;> (first | with_reducible assumption | ((with_reducible refine Eq.trans (cell_drew _ _) ?_); with_reducible assumption) | ((rw [cell_far4 _ _ _ _ _ _ _ _ (by omega)]); with_reducible assumption) | ((repeat rw [cell_far2 _ _ _ _ _ _ (by omega)]); with_reducible assumption) | go_keep)) | trivial | go_keep)
    (first
      | (go_at_call 72; have _t := tok0; clear _t tok0; ((with_reducible refine Calls.mono (of_any 1 _ (by omega) (by omega)) ?_)); rintro e w5 ⟨v, rfl, h, hb⟩; obtain ⟨b5, A5, n5, c5, rfl, -, -, h⟩ := h.form; replace h := h.lim (k := K) B1.out; have hB := (show Below w4.heap.size w4 w5 from by first | exact hb | exact bundrew hb | exact bun hb | exact bundrew (bun hb) | exact bun (bundrew hb)); have n_5 := Lib.hid (n_4.out.below hB); have Kr_5 := Lib.hid (Kr_4.out.below hB); have Kn_5 := Lib.hid (Kn_4.out.below hB); have d_5 := Lib.hid (h); have HB_5 := Lib.hid (below_trans HB_4.out hB); have hs_5 : w.heap.size ≤ w5.heap.size := HB_5.out.size; have hz_5 : w4.heap.size + 0 ≤ w5.heap.size := (by have h := hb.size; (try simp at h); omega); clear hB hb n_4 Kr_4 Kn_4 HB_4 p10 p11 l1; obtain ⟨p20, p21, l2⟩ := Kn_5.out.use2; obtain ⟨p30, p31, p32, p33, l3⟩ := Kr_5.out.use4; obtain ⟨r30, r31, r32, r33⟩ := Kr_5.out.into4))
  go_wp2
  obtain ⟨WF, hWF⟩ : ∃ W, W = ((((w5.setCell ⟨w.heap.size, 0, none⟩ (.bool b3)).setCell ⟨w.heap.size, 1, none⟩ (.slice A3 n3 c3)).setCell ⟨w.heap.size, 2, none⟩ (.bool b5)).setCell ⟨w.heap.size, 3, none⟩ (.slice A5 n5 c5)) := ⟨_, rfl⟩
  rw [← hWF]
  have kq : Blk WF (w.heap.size) 26 #[.bool b3, .slice A3 n3 c3, .bool b5, .slice A5 n5 c5] := by rw [hWF]; exact Kr_5.out.own4
  have hBF : Below w.heap.size w WF := by rw [hWF]; exact Below.set4 (HB_5.out) (by first | omega | (simp; omega) | simp)
  have f1 : LimI K WF (.agg #[.bool b3, .slice A3 n3 c3]) X := by rw [hWF]; exact n_5.out.other4 Kr_5.out nu nu nu nu
  have f2 : LimI K WF (.agg #[.bool b5, .slice A5 n5 c5]) 1 := by rw [hWF]; exact d_5.out.other4 Kr_5.out nu nu nu nu
  have HE : Hid (WrPost K w WF (Ending.returned (.tuple #[.agg #[.bool b3, .slice A3 n3 c3, .bool b5, .slice A5 n5 c5], .bool ok])) X 1 ok) := ⟨_, rfl, limR_mk f1 f2, hBF⟩
  obtain ⟨e0, e1, e2, e3⟩ := kq.cells4
  clear hWF
  exact bodyPost_ret (v := .tuple #[.agg #[.bool b3, .slice A3 n3 c3, .bool b5, .slice A5 n5 c5], .bool ok]) (by simp [results, Tryz.results76, go_sem, e0, e1, e2, e3] <;> omega) rfl HE.out
end Go.Proofs.YtglcififcldchaaGreatDoor
