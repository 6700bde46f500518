/- The walk of CellSplits. -/
import Derived.Test.YtmedmeabjlmggaaMc
namespace Go.Proofs.Ytmedmeabjlmggaa
open Go.RowKit
set_option linter.unusedSimpArgs false
set_option linter.unusedVariables false

theorem rows_yes {w : World} {v1 v2 : Value} {n : Nat} {f g : Nat → Nat} (h1 : Byt w v1 n f) (h2 : Byt w v2 n g) (hn : n ≤ 4611686018427387904) (he : ∀ j, j < n → f j = g j) :
    Calls Try.prog 14 #[v1, v2] w fun e w' => e = .returned (.bool true) ∧ Below w.heap.size w w' := by
  refine (rows_by h1 h2 hn hn).mono ?_
  rintro e w' ⟨⟨b, rfl, hb⟩, hbl⟩
  obtain rfl := hb.2 ⟨rfl, he⟩
  exact ⟨rfl, hbl⟩
theorem part_same {g s n i : Nat} {f : Nat → Nat} {x y : CellD} (hx : PartOf g s n f i x) (hy : PartOf g s n f i y) : sameC x y := by
  obtain ⟨a1, a2, a3, a4, a5, a6⟩ := hx
  obtain ⟨b1, b2, b3, b4, b5, b6⟩ := hy
  exact ⟨by rw [a1, b1], by rw [a2, b2], by rw [a3, b3], by rw [a4, b4], by rw [a5, b5], fun j hj => by rw [a6 j hj, b6 j (by rw [b5, ← a5]; exact hj)]⟩
theorem joinL_le {n : Nat} {X : Nat → CellD} : joinL n X ≤ 392 := by
  unfold joinL
  split
  · rename_i h
    have h1 := join_few (h.2 (n - 1) (by have := h.1; omega))
    rw [joinN, if_neg (by omega)]
    omega
  · omega
def SplitsPost (w w' : World) (e : Ending) : Prop := e = .returned (.bool true) ∧ Below w.heap.size w w'
def boxG (g s : Nat) : Obj := .cells #[.int .u32 (g : Nat), .int .u32 (s : Nat)] 23
theorem boxG_new (w : World) (g s : Nat) {u : World} (hb : Below (w.alloc (boxG g s)).heap.size (w.alloc (boxG g s)) u) : u.cell? ⟨w.heap.size, 0, none⟩ = some (.int .u32 (g : Nat)) ∧ u.cell? ⟨w.heap.size, 1, none⟩ = some (.int .u32 (s : Nat)) := by
  have h0 : (w.alloc (boxG g s)).cell? ⟨w.heap.size, 0, none⟩ = some (.int .u32 (g : Nat)) := new_get w #[.int .u32 (g : Nat), .int .u32 (s : Nat)] 23 0 _ rfl
  have h1 : (w.alloc (boxG g s)).cell? ⟨w.heap.size, 1, none⟩ = some (.int .u32 (s : Nat)) := new_get w #[.int .u32 (g : Nat), .int .u32 (s : Nat)] 23 1 _ rfl
  exact ⟨(hb.cell (by simp)).trans h0, (hb.cell (by simp)).trans h1⟩
section
variable {w u u' : World} {o : Obj}
theorem run_b (hb : Below (w.alloc o).heap.size (w.alloc o) u) : Below w.heap.size w u := (below_new w o).trans (hb.mono (by rw [World.size_alloc]; omega))
theorem run_n (hb : Below (w.alloc o).heap.size (w.alloc o) u) (h : Below u.heap.size u u') : Below (w.alloc o).heap.size (w.alloc o) u' := hb.trans (h.mono hb.size)
end
set_option maxRecDepth 100000 in
set_option maxHeartbeats 4000000 in
theorem splits_out (g s : Nat) (A : Option Addr) (n c : Nat) (B : Option Addr) (m d : Nat) (X : Nat → CellD) (w : World) (hn : n ≤ 9223372036854775807) (hC : CellsAt w B m X) (hm : m ≤ 9223372036854775807) (hX : ∀ i, i < m → (X i).n ≤ 140737488355328) (ho : 3000 < n) :
    Calls Try.prog 3 #[.agg #[.int .u32 (g : Nat), .int .u32 (s : Nat)], .slice A n c, .slice B m d] w fun e w' => SplitsPost w w' e := by
  have ho' : (n : Int) > 3000 := by omega
  have d1 : decide ((n : Int) > 3000) = true := by rw [decide_eq_true_eq]; omega
  clear hC hX
  go_enter Try.func3, Try.ntmps3
  go_wp2_with (go_at_call 7; refine (awake_any _).mono ?_; rintro e w2 ⟨rfl, hb2⟩; have K2 := Lib.hid (show Below (w.alloc (boxG g s)).heap.size (w.alloc (boxG g s)) w2 from hb2); clear hb2)
  go_ret
  exact ⟨rfl, run_b K2.out⟩

set_option maxRecDepth 100000 in
set_option maxHeartbeats 8000000 in
theorem splits_in (g s : Nat) (A : Option Addr) (n c : Nat) (f : Nat → Nat) (B : Option Addr) (m d : Nat) (X : Nat → CellD) (w : World) (hg : g < 4294967296) (hs : s < 4294967296) (hnc : n ≤ c) (hc : c ≤ 9223372036854775807) (hr : Rd .u8 w A n f) (hf : ∀ j, j < n → f j < 256) (hC : CellsAt w B m X) (hm : m ≤ 9223372036854775807) (hX : ∀ i, i < m → (X i).n ≤ 140737488355328) (hn : n ≤ 3000) :
    Calls Try.prog 3 #[.agg #[.int .u32 (g : Nat), .int .u32 (s : Nat)], .slice A n c, .slice B m d] w fun e w' => SplitsPost w w' e := by
  have ho' : ¬ ((n : Int) > 3000) := by omega
  have d1 : decide ((n : Int) > 3000) = false := by rw [decide_eq_false_iff_not]; omega
  obtain ⟨o, ho⟩ : ∃ o, boxG g s = o := ⟨_, rfl⟩
  by_cases hsm : ¬ (m < 30 ∧ accN X m < 3000)
  · have HSM : Hid (∀ u, Below (w.alloc o).heap.size (w.alloc o) u → Calls Try.prog 8 #[.slice B m d] u fun e w' => e = .returned (.bool false) ∧ Below u.heap.size u w') := fun u hu => (small_any B m d X u (hC.keep (run_b hu)) hm hX).mono fun e w' h => ⟨h.1.trans (by rw [decide_eq_false hsm]), h.2⟩
    clear hsm hr hf hC hX
    go_enter Try.func3, Try.ntmps3
    go_wp2_with (first
      | (go_at_call 7; refine (awake_any _).mono ?_; rintro e w2 ⟨rfl, hb2⟩; have K2 := Lib.hid (show Below (w.alloc o).heap.size (w.alloc o) w2 from by rw [← ho]; exact hb2); clear hb2)
      | (go_at_call 8; refine (HSM.out _ K2.out).mono ?_; rintro e w3 ⟨rfl, hb3⟩; have K3 := Lib.hid (run_n K2.out hb3); clear hb3))
    go_ret
    exact ⟨rfl, run_b K3.out⟩
  have hsm2 : m < 30 ∧ accN X m < 3000 := Classical.not_not.1 hsm
  have HSM : Hid (∀ u, Below (w.alloc o).heap.size (w.alloc o) u → Calls Try.prog 8 #[.slice B m d] u fun e w' => e = .returned (.bool true) ∧ Below u.heap.size u w') := fun u hu => (small_any B m d X u (hC.keep (run_b hu)) hm hX).mono fun e w' h => ⟨h.1.trans (by rw [decide_eq_true hsm2]), h.2⟩
  have HBX : Hid (∀ u, Below (w.alloc o).heap.size (w.alloc o) u → u.cell? ⟨w.heap.size, 0, none⟩ = some (.int .u32 (g : Nat)) ∧ u.cell? ⟨w.heap.size, 1, none⟩ = some (.int .u32 (s : Nat))) := fun u hu => boxG_new w g s (by rw [ho]; exact hu)
  have HBY : Hid (∀ u, Below (w.alloc o).heap.size (w.alloc o) u → Byt u (.slice A n c) n f) := fun u hu => ⟨A, c, rfl, hnc, hr.below (run_b hu), hf⟩
  have HSP : Hid (∀ u, Below (w.alloc o).heap.size (w.alloc o) u → Calls Try.prog 9 #[.int .u32 (g : Nat), .int .u32 (s : Nat), .slice A n c] u fun e w' => SplitOne u w' e g s n f) := fun u hu => (split_by hg hs (HBY.out u hu) (by omega)).mono fun _ _ h => h.one
  have HRS : Hid (∀ u, Below (w.alloc o).heap.size (w.alloc o) u → Calls Try.prog 10 #[.int .u32 (g : Nat), .int .u32 (s : Nat), .slice A n c] u fun e w' => SplitOne u w' e g s n f) := fun u hu => (rsplit_by hg hs hnc hc (hr.below (run_b hu)) hf).mono fun _ _ h => h.one
  have HJ : Hid (∀ u, Below (w.alloc o).heap.size (w.alloc o) u → Calls Try.prog 11 #[.slice B m d] u fun e w' => JoinOne u w' e m X) := fun u hu => (join_by (hC.keep (run_b hu)) (by omega)).mono fun _ _ h => h.one
  have HRJ : Hid (∀ u, Below (w.alloc o).heap.size (w.alloc o) u → Calls Try.prog 12 #[.slice B m d] u fun e w' => JoinOne u w' e m X) := fun u hu => rjoin_by (hC.keep (run_b hu)) (by omega) fun i hi => by have := acc_ge (X := X) m i hi; omega
  have HSL : Hid (∀ (Y : Nat → CellD), (∀ i, i < needF n → PartOf g s n f i (Y i)) → ∀ i, i < needF n → (Y i).n ≤ 4611686018427387904) := fun Y hY i hi => by have := part_len (hY i hi) hi; omega
  have HNF := Lib.hid (need_few n)
  clear hr hf hC hX
  clear hsm hsm2
  by_cases hz : needF n = 0
  · have hzz : (if needF n = 0 then (1 : Int) else 0) = 1 := if_pos hz
    have HN : Hid (∀ u, Calls Try.prog 15 #[.int .i64 (n : Nat)] u fun e w' => e = .returned (.int .i64 (needF n : Nat)) ∧ u = w') := fun u => (need_any n u (by omega)).mono fun e w' h => ⟨h.1, h.2.symm⟩
    have HRN : Hid (∀ u, Calls Try.prog 16 #[.int .i64 (n : Nat)] u fun e w' => e = .returned (.int .i64 (needF n : Nat)) ∧ u = w') := fun u => (rneed_any n u (by omega)).mono fun e w' h => ⟨h.1, h.2.symm⟩
    have HJA : Hid (∀ u A1 c1 X1, CellsAt u A1 (needF n) X1 → (∀ i, i < needF n → PartOf g s n f i (X1 i)) → Calls Try.prog 11 #[.slice A1 (needF n) c1] u fun e w' => (∃ v, e = .returned (.tuple #[v, .int .i64 (joinC (needF n) X1)]) ∧ Byt w' v (joinL (needF n) X1) (joinF X1)) ∧ Below u.heap.size u w') := fun u A1 c1 X1 h1 h2 => (join_by h1 (by omega)).mono fun _ _ h => h.one
    have HZ := Lib.hid hz
    clear hz
    go_enter Try.func3, Try.ntmps3
    go_wp2_with (first
      | (go_at_call 7; refine (awake_any _).mono ?_; rintro e w2 ⟨rfl, hb2⟩; have K2 := Lib.hid (show Below (w.alloc o).heap.size (w.alloc o) w2 from by rw [← ho]; exact hb2); clear hb2; obtain ⟨x0, x1⟩ := HBX.out _ K2.out)
      | (go_at_call 8; refine (HSM.out _ K2.out).mono ?_; rintro e w3 ⟨rfl, hb3⟩; have K3 := Lib.hid (run_n K2.out hb3); clear hb3 x0 x1; obtain ⟨x0, x1⟩ := HBX.out _ K3.out)
      | (go_at_call 9; refine (HSP.out _ K3.out).mono ?_; rintro e w4 ⟨⟨A1, c1, X1, rfl, hc1, hX1, hP1⟩, hb4⟩; rw [hzz]; have K4 := Lib.hid (run_n K3.out hb4); have HX1 := Lib.hid hX1; have HP1 := Lib.hid hP1; clear hb4 x0 x1 hX1 hP1; obtain ⟨x0, x1⟩ := HBX.out _ K4.out)
      | (go_at_call 10; refine (HRS.out _ K4.out).mono ?_; rintro e w5 ⟨⟨A2, c2, X2, rfl, hc2, hX2, hP2⟩, hb5⟩; rw [hzz]; have K5 := Lib.hid (run_n K4.out hb5); have HX2 := Lib.hid hX2; have HP2 := Lib.hid hP2; have HX1b := Lib.hid (HX1.out.keep hb5); clear hb5 x0 x1 hX2 hP2)
      | (go_at_call 11; have _t := K9; refine (HJA.out _ A1 c1 X1 HX1c.out HP1.out).mono ?_; rintro e w10 ⟨⟨v10, rfl, hv10⟩, hb10⟩; have K10 := Lib.hid (run_n K9.out hb10); have HV10 := Lib.hid hv10; clear hb10 hv10 _t)
      | (go_at_call 11; refine (HJ.out _ K5.out).mono ?_; rintro e w6 ⟨⟨v6, rfl, hv6⟩, hb6⟩; have K6 := Lib.hid (run_n K5.out hb6); have HV6 := Lib.hid hv6; have HB6 := Lib.hid hb6; clear hb6 hv6)
      | (go_at_call 12; refine (HRJ.out _ K6.out).mono ?_; rintro e w7 ⟨⟨v7, rfl, hv7⟩, hb7⟩; have K7 := Lib.hid (run_n K6.out hb7); have HV7 := Lib.hid hv7; have HB7 := Lib.hid hb7; have HV6b := Lib.hid (HV6.out.below hb7); clear hb7 hv7)
      | (go_at_call 13; refine (alike_yes ((HX1b.out.keep HB6.out).keep HB7.out) ((HX2.out.keep HB6.out).keep HB7.out) (by have := HNF.out; omega) (HSL.out _ HP1.out) (HSL.out _ HP2.out) rfl (fun i hi => part_same (HP1.out i hi) (HP2.out i hi))).mono ?_; rintro e w8 ⟨rfl, hb8⟩; have K8 := Lib.hid (run_n K7.out hb8); have HB8 := Lib.hid hb8; clear hb8)
      | (go_at_call 14; have _t := K10; refine (rows_by HV10.out (HBY.out _ K10.out) (by omega) (by omega)).mono ?_; rintro e w11 ⟨rfl, hb11⟩; have K11 := Lib.hid (run_n K10.out hb11); clear hb11 _t)
      | (go_at_call 14; refine (rows_yes (HV6b.out.below HB8.out) (HV7.out.below HB8.out) (by have := joinL_le (n := m) (X := X); omega) (fun _ _ => rfl)).mono ?_; rintro e w9 ⟨rfl, hb9⟩; have K9 := Lib.hid (run_n K8.out hb9); have HX1c := Lib.hid ((((HX1b.out.keep HB6.out).keep HB7.out).keep HB8.out).keep hb9); clear hb9)
      | (go_at_call 15; refine (HN.out _).mono ?_; rintro e w' ⟨rfl, rfl⟩)
      | (go_at_call 16; refine (HRN.out _).mono ?_; rintro e w' ⟨rfl, rfl⟩))
    go_ret
    exact ⟨rfl, run_b K10.out⟩
  · have hzz : (if needF n = 0 then (1 : Int) else 0) = 0 := if_neg hz
    have HN : Hid (∀ u, Calls Try.prog 15 #[.int .i64 (n : Nat)] u fun e w' => e = .returned (.int .i64 (needF n : Nat)) ∧ u = w') := fun u => (need_any n u (by omega)).mono fun e w' h => ⟨h.1, h.2.symm⟩
    have HRN : Hid (∀ u, Calls Try.prog 16 #[.int .i64 (n : Nat)] u fun e w' => e = .returned (.int .i64 (needF n : Nat)) ∧ u = w') := fun u => (rneed_any n u (by omega)).mono fun e w' h => ⟨h.1, h.2.symm⟩
    have HJA : Hid (∀ u A1 c1 X1, CellsAt u A1 (needF n) X1 → (∀ i, i < needF n → PartOf g s n f i (X1 i)) → Calls Try.prog 11 #[.slice A1 (needF n) c1] u fun e w' => (∃ v, e = .returned (.tuple #[v, .int .i64 0]) ∧ Byt w' v n f) ∧ Below u.heap.size u w') := fun u A1 c1 X1 h1 h2 => by
      refine (join_by h1 (by have := HNF.out; omega)).mono ?_
      rintro e w' ⟨h, hb⟩
      obtain ⟨j1, j2, j3⟩ := parts_join hz h2
      rcases h with ⟨_, v, rfl, hv⟩ | ⟨hno, _⟩
      · rw [j2] at hv
        exact ⟨⟨v, rfl, hv.cast rfl j3⟩, hb⟩
      · exact absurd j1 hno
    have HZ := Lib.hid hz
    clear hz
    go_enter Try.func3, Try.ntmps3
    go_wp2_with (first
      | (go_at_call 7; refine (awake_any _).mono ?_; rintro e w2 ⟨rfl, hb2⟩; have K2 := Lib.hid (show Below (w.alloc o).heap.size (w.alloc o) w2 from by rw [← ho]; exact hb2); clear hb2; obtain ⟨x0, x1⟩ := HBX.out _ K2.out)
      | (go_at_call 8; refine (HSM.out _ K2.out).mono ?_; rintro e w3 ⟨rfl, hb3⟩; have K3 := Lib.hid (run_n K2.out hb3); clear hb3 x0 x1; obtain ⟨x0, x1⟩ := HBX.out _ K3.out)
      | (go_at_call 9; refine (HSP.out _ K3.out).mono ?_; rintro e w4 ⟨⟨A1, c1, X1, rfl, hc1, hX1, hP1⟩, hb4⟩; rw [hzz]; have K4 := Lib.hid (run_n K3.out hb4); have HX1 := Lib.hid hX1; have HP1 := Lib.hid hP1; clear hb4 x0 x1 hX1 hP1; obtain ⟨x0, x1⟩ := HBX.out _ K4.out)
      | (go_at_call 10; refine (HRS.out _ K4.out).mono ?_; rintro e w5 ⟨⟨A2, c2, X2, rfl, hc2, hX2, hP2⟩, hb5⟩; rw [hzz]; have K5 := Lib.hid (run_n K4.out hb5); have HX2 := Lib.hid hX2; have HP2 := Lib.hid hP2; have HX1b := Lib.hid (HX1.out.keep hb5); clear hb5 x0 x1 hX2 hP2)
      | (go_at_call 11; have _t := K9; refine (HJA.out _ A1 c1 X1 HX1c.out HP1.out).mono ?_; rintro e w10 ⟨⟨v10, rfl, hv10⟩, hb10⟩; have K10 := Lib.hid (run_n K9.out hb10); have HV10 := Lib.hid hv10; clear hb10 hv10 _t)
      | (go_at_call 11; refine (HJ.out _ K5.out).mono ?_; rintro e w6 ⟨⟨v6, rfl, hv6⟩, hb6⟩; have K6 := Lib.hid (run_n K5.out hb6); have HV6 := Lib.hid hv6; have HB6 := Lib.hid hb6; clear hb6 hv6)
      | (go_at_call 12; refine (HRJ.out _ K6.out).mono ?_; rintro e w7 ⟨⟨v7, rfl, hv7⟩, hb7⟩; have K7 := Lib.hid (run_n K6.out hb7); have HV7 := Lib.hid hv7; have HB7 := Lib.hid hb7; have HV6b := Lib.hid (HV6.out.below hb7); clear hb7 hv7)
      | (go_at_call 13; refine (alike_yes ((HX1b.out.keep HB6.out).keep HB7.out) ((HX2.out.keep HB6.out).keep HB7.out) (by have := HNF.out; omega) (HSL.out _ HP1.out) (HSL.out _ HP2.out) rfl (fun i hi => part_same (HP1.out i hi) (HP2.out i hi))).mono ?_; rintro e w8 ⟨rfl, hb8⟩; have K8 := Lib.hid (run_n K7.out hb8); have HB8 := Lib.hid hb8; clear hb8)
      | (go_at_call 14; have _t := K10; refine (rows_yes HV10.out (HBY.out _ K10.out) (by omega) (fun _ _ => rfl)).mono ?_; rintro e w11 ⟨rfl, hb11⟩; have K11 := Lib.hid (run_n K10.out hb11); clear hb11 _t)
      | (go_at_call 14; refine (rows_yes (HV6b.out.below HB8.out) (HV7.out.below HB8.out) (by have := joinL_le (n := m) (X := X); omega) (fun _ _ => rfl)).mono ?_; rintro e w9 ⟨rfl, hb9⟩; have K9 := Lib.hid (run_n K8.out hb9); have HX1c := Lib.hid ((((HX1b.out.keep HB6.out).keep HB7.out).keep HB8.out).keep hb9); clear hb9)
      | (go_at_call 15; refine (HN.out _).mono ?_; rintro e w' ⟨rfl, rfl⟩)
      | (go_at_call 16; refine (HRN.out _).mono ?_; rintro e w' ⟨rfl, rfl⟩))
    go_ret
    exact ⟨rfl, run_b K11.out⟩
theorem splits_any (g s : Nat) (A : Option Addr) (n c : Nat) (f : Nat → Nat) (B : Option Addr) (m d : Nat) (X : Nat → CellD) (w : World) (hg : g < 4294967296) (hs : s < 4294967296) (hnc : n ≤ c) (hc : c ≤ 9223372036854775807) (hr : Rd .u8 w A n f) (hf : ∀ j, j < n → f j < 256) (hC : CellsAt w B m X) (hm : m ≤ 9223372036854775807) (hX : ∀ i, i < m → (X i).n ≤ 140737488355328) :
    Calls Try.prog 3 #[.agg #[.int .u32 (g : Nat), .int .u32 (s : Nat)], .slice A n c, .slice B m d] w fun e w' => SplitsPost w w' e := by
  by_cases h : n ≤ 3000
  · exact splits_in g s A n c f B m d X w hg hs hnc hc hr hf hC hm hX h
  · exact splits_out g s A n c B m d X w (by omega) hC hm hX (by omega)
end Go.Proofs.Ytmedmeabjlmggaa
