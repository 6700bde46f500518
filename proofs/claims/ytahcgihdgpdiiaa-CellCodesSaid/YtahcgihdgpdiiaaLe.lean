/- The walk of CellCodes, whole. -/
import Derived.Test.YtahcgihdgpdiiaaLd
import Derived.Deep.RegionHeld3
namespace Go.Proofs.Ytahcgihdgpdiiaa
open Go.RowKit
set_option linter.unusedSimpArgs false
set_option linter.unusedVariables false

def CodesPost (w w' : World) (e : Ending) : Prop := e = .returned (.bool true) ∧ Below w.heap.size w w'
theorem may_one {w : World} {x : CellD} (h : x.good) : Calls Try.prog 17 #[x.val] w fun e w' => e = .returned (.bool (decide (mayP x.p x.q x.n))) ∧ Below w.heap.size w w' := may_any x.g x.s x.p x.q x.A x.n x.c w h.2.2.2.2.2.2.2.1
theorem rmay_one {w : World} {x : CellD} (h : x.good) : Calls Try.prog 18 #[x.val] w fun e w' => e = .returned (.bool (decide (mayP x.p x.q x.n))) ∧ Below w.heap.size w w' := rmay_any x.g x.s x.p x.q x.A x.n x.c w h.2.2.2.2.2.2.2.1
theorem HasC.drew {w : World} {D : CellD} (h : HasC w D) : HasC w.drew D := h
abbrev BoxD (w : World) (b : Nat) (D : CellD) : Prop := BoxC w b D.g D.s D.p D.q D.A D.n D.c
abbrev objD (D : CellD) : Obj := .cells #[.int .u32 (D.g : Nat), .int .u32 (D.s : Nat), .int .i64 D.p, .int .i64 D.q, .slice D.A D.n D.c] 25
abbrev uD (x : CellD) (U : Option Addr) (c : Nat) : CellD := ⟨x.g, x.s, x.p, x.q, U, x.n, c, x.f⟩
theorem BoxD.new_ (w : World) (D : CellD) : BoxD (w.alloc (objD D)) w.heap.size D := BoxC.new w D.g D.s D.p D.q D.A D.n D.c
set_option maxHeartbeats 1000000 in
theorem codes_out (x : CellD) (A : Option Addr) (n c : Nat) (w : World) (hx : x.good) (hn : n ≤ 9223372036854775807) (h : 1000 < x.n ∨ 1000 < n) :
    Calls Try.prog 3 #[x.val, .slice A n c] w fun e w' => CodesPost w w' e := by
  have HX := Lib.hid (BoxD.new_ w x)
  have HB := Lib.hid (below_new w (objD x))
  have hxn := hx.2.2.2.2.2.2.2.1
  by_cases h1 : 1000 < x.n
  · have h2 : (x.n : Int) > 1000 := by omega
    clear h
    go_enter Try.func3, Try.ntmps3
    go_wp2_with (go_at_call 10; refine (awake_any _).mono ?_; rintro e w1 ⟨rfl, hb1⟩; obtain ⟨x0, x1, x2, x3, x4⟩ := HX.out.below hb1; have hxl := (HX.out.below hb1).lt)
    go_ret
    exact ⟨rfl, bbt HB.out hb1⟩
  · have h2 : ¬ ((x.n : Int) > 1000) := by omega
    have h3 : (n : Int) > 1000 := by omega
    clear h
    go_enter Try.func3, Try.ntmps3
    go_wp2_with (go_at_call 10; refine (awake_any _).mono ?_; rintro e w1 ⟨rfl, hb1⟩; obtain ⟨x0, x1, x2, x3, x4⟩ := HX.out.below hb1; have hxl := (HX.out.below hb1).lt)
    go_ret
    exact ⟨rfl, bbt HB.out hb1⟩

set_option maxRecDepth 20000 in
set_option maxHeartbeats 4000000 in
theorem codes_no (x : CellD) (A : Option Addr) (n c : Nat) (f : Nat → Nat) (w : World) (hx : HasC w x) (hv : Byt w (.slice A n c) n f) (hn : n ≤ 1000) (hm : ¬ mayP x.p x.q x.n) :
    Calls Try.prog 3 #[x.val, .slice A n c] w fun e w' => CodesPost w w' e := by
  have hN : encN x = 0 := if_neg hm
  have hC : encC x = 1 := if_neg hm
  have HM := Lib.hid (decide_eq_false hm)
  have HMM := Lib.hid hm
  have HXC := Lib.hid hx
  have HV := Lib.hid hv
  have hxn : ¬ ((x.n : Int) > 1000) := by have := hx.2.2; omega
  have hnn : ¬ ((n : Int) > 1000) := by omega
  have HX0 := Lib.hid (BoxD.new_ w x)
  have HB0 := Lib.hid (below_new w (objD x))
  obtain ⟨C, hCd⟩ : ∃ C, decC n f = C := ⟨_, rfl⟩
  have HCD := Lib.hid hCd
  have HEN := Lib.hid hN
  have HEC := Lib.hid hC
  clear hm hx hv hCd hN hC
  go_enter Try.func3, Try.ntmps3
  go_wp2_with (first
    | (go_at_call 10; refine (awake_any _).mono ?_; rintro e w1 ⟨rfl, hb1⟩; have HX1 := Lib.hid (BoxC.below HX0.out hb1); have HB1 := Lib.hid (bbt HB0.out hb1); clear hb1; obtain ⟨x0, x1, x2, x3, x4⟩ := HX1.out; have hxl := BoxC.lt HX1.out)
    | (go_at_call 11; refine Calls.mono (encode_one (HXC.out.below HB1.out)) ?_; rintro e w2 ⟨⟨v2, rfl, hv2⟩, hb2⟩; have HS2 := Lib.hid hv2; obtain ⟨sa, sc, rfl, _⟩ := hv2; have HX2 := Lib.hid (BoxC.below HX1.out hb2); have HB2 := Lib.hid (bbt HB1.out hb2); clear hb2 x0 x1 x2 x3 x4 hxl; obtain ⟨x0, x1, x2, x3, x4⟩ := HX2.out; have hxl := BoxC.lt HX2.out; rw [HEC.out])
    | (go_at_call 12; refine Calls.mono (rencode_one (HXC.out.below HB2.out)) ?_; rintro e w3 ⟨⟨v3, rfl, hv3⟩, hb3⟩; have HT3 := Lib.hid hv3; obtain ⟨ta, tc, rfl, _⟩ := hv3; have HS3 := Lib.hid (HS2.out.below hb3); have HX3 := Lib.hid (BoxC.below HX2.out hb3); have HB3 := Lib.hid (bbt HB2.out hb3); clear hb3 x0 x1 x2 x3 x4 hxl; rw [HEC.out])
    | (go_at_call 13; refine Calls.mono (decode_by (HV.out.below HB3.out) (by omega)) ?_; intro e w4 h4; obtain ⟨⟨D, rfl, hD, hsD⟩, hb4⟩ := h4.one HV.out.lt; rw [HCD.out]; have HD4 := Lib.hid hD; have HSD := Lib.hid hsD; have HS4 := Lib.hid (HS3.out.below hb4); have HT4 := Lib.hid (HT3.out.below hb4); have HX4 := Lib.hid (BoxC.below HX3.out hb4); have HB4 := Lib.hid (bbt HB3.out hb4); clear h4 hD hsD hb4)
    | (go_at_call 14; refine Calls.mono (rdecode_by (HV.out.below (bbt HB4.out (below_new w4 (objD D)))) (by omega)) ?_; intro e w6 h6; obtain ⟨⟨E, rfl, hE, hsE⟩, hb6⟩ := h6.one HV.out.lt; rw [HCD.out]; have hb46 := bbt (below_new w4 (objD D)) hb6; have HE6 := Lib.hid hE; have HSE := Lib.hid hsE; have HS6 := Lib.hid (HS4.out.below hb46); have HT6 := Lib.hid (HT4.out.below hb46); have HX6 := Lib.hid (BoxC.below HX4.out hb46); have HD6 := Lib.hid (HD4.out.below hb46); have HY6 := Lib.hid (BoxC.below (BoxD.new_ w4 D) hb6); have HB6 := Lib.hid (bbt HB4.out hb46); clear h6 hE hsE hb6 hb46))
  have hb67 := below_new w6 (objD E)
  have HE7 := Lib.hid (HE6.out.below hb67)
  have HS7 := Lib.hid (HS6.out.below hb67)
  have HT7 := Lib.hid (HT6.out.below hb67)
  have HX7 := Lib.hid (BoxC.below HX6.out hb67)
  have HD7 := Lib.hid (HD6.out.below hb67)
  have HY7 := Lib.hid (BoxC.below HY6.out hb67)
  have HZ7 := Lib.hid (BoxD.new_ w6 E)
  have HB7 := Lib.hid (bbt HB6.out hb67)
  have HXC7 := Lib.hid (HXC.out.below HB7.out)
  have HSC := Lib.hid (HSD.out.trans2 HSE.out)
  clear hb67 hxn hnn
  change Code.wp _ _ _ _ (w6.alloc (objD E))
  generalize w6.alloc (objD E) = w7 at *
  generalize hYB : w4.heap.size = YB at *
  generalize hZB : w6.heap.size = ZB at *
  clear hYB hZB
  have HKP : Hid (∀ u, Below w7.drew.heap.size w7.drew u → u.cell? ⟨w.heap.size, 0, none⟩ = some (.int .u32 (x.g : Nat)) ∧ u.cell? ⟨w.heap.size, 1, none⟩ = some (.int .u32 (x.s : Nat)) ∧ u.cell? ⟨w.heap.size, 2, none⟩ = some (.int .i64 x.p) ∧ u.cell? ⟨w.heap.size, 3, none⟩ = some (.int .i64 x.q) ∧ u.cell? ⟨w.heap.size, 4, none⟩ = some (.slice x.A x.n x.c) ∧ u.cell? ⟨YB, 0, none⟩ = some (.int .u32 (D.g : Nat)) ∧ u.cell? ⟨YB, 1, none⟩ = some (.int .u32 (D.s : Nat)) ∧ u.cell? ⟨YB, 2, none⟩ = some (.int .i64 D.p) ∧ u.cell? ⟨YB, 3, none⟩ = some (.int .i64 D.q) ∧ u.cell? ⟨YB, 4, none⟩ = some (.slice D.A D.n D.c) ∧ u.cell? ⟨ZB, 0, none⟩ = some (.int .u32 (E.g : Nat)) ∧ u.cell? ⟨ZB, 1, none⟩ = some (.int .u32 (E.s : Nat)) ∧ u.cell? ⟨ZB, 2, none⟩ = some (.int .i64 E.p) ∧ u.cell? ⟨ZB, 3, none⟩ = some (.int .i64 E.q) ∧ u.cell? ⟨ZB, 4, none⟩ = some (.slice E.A E.n E.c)) := fun u hu => ⟨(HX7.out.drew.below hu).1, (HX7.out.drew.below hu).2.1, (HX7.out.drew.below hu).2.2.1, (HX7.out.drew.below hu).2.2.2.1, (HX7.out.drew.below hu).2.2.2.2, (HY7.out.drew.below hu).1, (HY7.out.drew.below hu).2.1, (HY7.out.drew.below hu).2.2.1, (HY7.out.drew.below hu).2.2.2.1, (HY7.out.drew.below hu).2.2.2.2, (HZ7.out.drew.below hu).1, (HZ7.out.drew.below hu).2.1, (HZ7.out.drew.below hu).2.2.1, (HZ7.out.drew.below hu).2.2.2.1, (HZ7.out.drew.below hu).2.2.2.2⟩
  have HB70 := Lib.hid (Below.refl w7.drew.heap.size w7.drew)
  refine wp_region_held_drew (S := (fun w' => w'.cell? ⟨w.heap.size, 0, none⟩ = some (.int .u32 (x.g : Nat)) ∧ w'.cell? ⟨w.heap.size, 1, none⟩ = some (.int .u32 (x.s : Nat)) ∧ w'.cell? ⟨w.heap.size, 2, none⟩ = some (.int .i64 x.p) ∧ w'.cell? ⟨w.heap.size, 3, none⟩ = some (.int .i64 x.q) ∧ w'.cell? ⟨w.heap.size, 4, none⟩ = some (.slice x.A x.n x.c) ∧ w'.cell? ⟨YB, 0, none⟩ = some (.int .u32 (D.g : Nat)) ∧ w'.cell? ⟨YB, 1, none⟩ = some (.int .u32 (D.s : Nat)) ∧ w'.cell? ⟨YB, 2, none⟩ = some (.int .i64 D.p) ∧ w'.cell? ⟨YB, 3, none⟩ = some (.int .i64 D.q) ∧ w'.cell? ⟨YB, 4, none⟩ = some (.slice D.A D.n D.c) ∧ w'.cell? ⟨ZB, 0, none⟩ = some (.int .u32 (E.g : Nat)) ∧ w'.cell? ⟨ZB, 1, none⟩ = some (.int .u32 (E.s : Nat)) ∧ w'.cell? ⟨ZB, 2, none⟩ = some (.int .i64 E.p) ∧ w'.cell? ⟨ZB, 3, none⟩ = some (.int .i64 E.q) ∧ w'.cell? ⟨ZB, 4, none⟩ = some (.slice E.A E.n E.c))) (by kernel_rfl) ?_ (fun hHeld => ?_)
  · exact HKP.out _ HB70.out
  refine wpAnyH_take (i := 0) (v := ?_) rfl (by kernel_rfl) (by kernel_rfl) (by kernel_rfl) (fun _ _ _ h => h) (Or.inl ⟨by kernel_rfl, ?_⟩) (by assumption) ?_
  rotate_left
  · intro w hSw; (try dsimp only at hSw); go_simp <;> (try with_reducible rfl)
  (try simp only [Act.put, List.setIfInBounds_toArray, List.set_cons_zero, List.set_cons_succ, List.getElem_toArray, List.getElem_cons_succ, List.getElem_cons_zero])
  refine wpAnyH_take (i := 1) (v := ?_) rfl (by kernel_rfl) (by kernel_rfl) (by kernel_rfl) (fun _ _ _ h => h) (Or.inl ⟨by kernel_rfl, ?_⟩) (by assumption) ?_
  rotate_left
  · intro w hSw; (try dsimp only at hSw); go_simp <;> (try with_reducible rfl)
  (try simp only [Act.put, List.setIfInBounds_toArray, List.set_cons_zero, List.set_cons_succ, List.getElem_toArray, List.getElem_cons_succ, List.getElem_cons_zero])
  refine wpAnyH_ready (rs := [2]) (by kernel_rfl) (by simp) ?_
  refine AllReadyH.cons rfl (fun K hK => ?_) AllReadyH.nil
  go_simp
  go_at_call 15
  refine Calls.mono (rows_by HS7.out.drew HT7.out.drew (by rw [HEN.out]; omega) (by rw [HEN.out]; omega)) ?_
  rintro e w8 ⟨⟨b8, rfl, hb8⟩, hbl8⟩
  obtain rfl := hb8.2 ⟨rfl, fun _ _ => rfl⟩
  have HB8 := Lib.hid hbl8
  clear hb8 hbl8
  refine hK.out _ _ ?_ (fun hHeld => ?_)
  · (try dsimp only); exact HKP.out _ HB8.out
  clear hK K
  (try simp only [Act.put, List.setIfInBounds_toArray, List.set_cons_zero, List.set_cons_succ, List.getElem_toArray, List.getElem_cons_succ, List.getElem_cons_zero])
  refine wpAnyH_take (i := 3) (v := ?_) rfl (by kernel_rfl) (by kernel_rfl) (by kernel_rfl) (fun _ _ _ h => h) (Or.inl ⟨by kernel_rfl, ?_⟩) (by assumption) ?_
  rotate_left
  · intro w hSw; (try dsimp only at hSw); go_simp <;> (try with_reducible rfl)
  (try simp only [Act.put, List.setIfInBounds_toArray, List.set_cons_zero, List.set_cons_succ, List.getElem_toArray, List.getElem_cons_succ, List.getElem_cons_zero])
  refine wpAnyH_take (i := 4) (v := ?_) rfl (by kernel_rfl) (by kernel_rfl) (by kernel_rfl) (fun _ _ _ h => h) (Or.inl ⟨by kernel_rfl, ?_⟩) (by assumption) ?_
  rotate_left
  · intro w hSw; (try dsimp only at hSw); go_simp <;> (try with_reducible rfl)
  (try simp only [Act.put, List.setIfInBounds_toArray, List.set_cons_zero, List.set_cons_succ, List.getElem_toArray, List.getElem_cons_succ, List.getElem_cons_zero])
  refine wpAnyH_take (i := 5) (v := ?_) rfl (by kernel_rfl) (by kernel_rfl) (by kernel_rfl) (fun _ _ _ h => h) (Or.inl ⟨by kernel_rfl, ?_⟩) (by assumption) ?_
  rotate_left
  · intro w hSw; (try dsimp only at hSw); go_simp <;> (try with_reducible rfl)
  (try simp only [Act.put, List.setIfInBounds_toArray, List.set_cons_zero, List.set_cons_succ, List.getElem_toArray, List.getElem_cons_succ, List.getElem_cons_zero])
  refine wpAnyH_take (i := 6) (v := ?_) rfl (by kernel_rfl) (by kernel_rfl) (by kernel_rfl) (fun _ _ _ h => h) (Or.inl ⟨by kernel_rfl, ?_⟩) (by assumption) ?_
  rotate_left
  · intro w hSw; (try dsimp only at hSw); go_simp <;> (try with_reducible rfl)
  (try simp only [Act.put, List.setIfInBounds_toArray, List.set_cons_zero, List.set_cons_succ, List.getElem_toArray, List.getElem_cons_succ, List.getElem_cons_zero])
  refine wpAnyH_take (i := 7) (v := ?_) rfl (by kernel_rfl) (by kernel_rfl) (by kernel_rfl) (fun _ _ _ h => h) (Or.inl ⟨by kernel_rfl, ?_⟩) (by assumption) ?_
  rotate_left
  · intro w hSw; (try dsimp only at hSw); go_simp <;> (try with_reducible rfl)
  (try simp only [Act.put, List.setIfInBounds_toArray, List.set_cons_zero, List.set_cons_succ, List.getElem_toArray, List.getElem_cons_succ, List.getElem_cons_zero])
  refine wpAnyH_take (i := 8) (v := ?_) rfl (by kernel_rfl) (by kernel_rfl) (by kernel_rfl) (fun _ _ _ h => h) (Or.inl ⟨by kernel_rfl, ?_⟩) (by assumption) ?_
  rotate_left
  · intro w hSw; (try dsimp only at hSw); go_simp <;> (try with_reducible rfl)
  (try simp only [Act.put, List.setIfInBounds_toArray, List.set_cons_zero, List.set_cons_succ, List.getElem_toArray, List.getElem_cons_succ, List.getElem_cons_zero])
  refine wpAnyH_take (i := 9) (v := ?_) rfl (by kernel_rfl) (by kernel_rfl) (by kernel_rfl) (fun _ _ _ h => h) (Or.inl ⟨by kernel_rfl, ?_⟩) (by assumption) ?_
  rotate_left
  · intro w hSw; (try dsimp only at hSw); go_simp <;> (try with_reducible rfl)
  (try simp only [Act.put, List.setIfInBounds_toArray, List.set_cons_zero, List.set_cons_succ, List.getElem_toArray, List.getElem_cons_succ, List.getElem_cons_zero])
  refine wpAnyH_take (i := 10) (v := ?_) rfl (by kernel_rfl) (by kernel_rfl) (by kernel_rfl) (fun _ _ _ h => h) (Or.inl ⟨by kernel_rfl, ?_⟩) (by assumption) ?_
  rotate_left
  · intro w hSw; (try dsimp only at hSw); go_simp <;> (try with_reducible rfl)
  (try simp only [Act.put, List.setIfInBounds_toArray, List.set_cons_zero, List.set_cons_succ, List.getElem_toArray, List.getElem_cons_succ, List.getElem_cons_zero])
  refine wpAnyH_take (i := 12) (v := ?_) rfl (by kernel_rfl) (by kernel_rfl) (by kernel_rfl) (fun _ _ _ h => h) (Or.inl ⟨by kernel_rfl, ?_⟩) (by assumption) ?_
  rotate_left
  · intro w hSw; (try dsimp only at hSw); go_simp <;> (try with_reducible rfl)
  (try simp only [Act.put, List.setIfInBounds_toArray, List.set_cons_zero, List.set_cons_succ, List.getElem_toArray, List.getElem_cons_succ, List.getElem_cons_zero])
  have HB8a := Lib.hid (show Below w7.drew.heap.size w7.drew (w8.alloc (objD D)) from HB8.out.trans ((below_new w8 (objD D)).mono HB8.out.size))
  have HB8b := Lib.hid (show Below w7.drew.heap.size w7.drew (w8.alloc (objD E)) from HB8.out.trans ((below_new w8 (objD E)).mono HB8.out.size))
  have HB8c := Lib.hid (show Below w7.drew.heap.size w7.drew ((w8.alloc (objD D)).alloc (objD E)) from HB8a.out.trans ((below_new _ (objD E)).mono HB8a.out.size))
  have HB8d := Lib.hid (show Below w7.drew.heap.size w7.drew ((w8.alloc (objD E)).alloc (objD D)) from HB8b.out.trans ((below_new _ (objD D)).mono HB8b.out.size))
  refine wpAnyH_ready (rs := [11, 13]) (by kernel_rfl) (by simp) ?_
  refine (AllReadyH.cons rfl (fun K hK => ?_) (AllReadyH.cons rfl (fun K hK => ?_) AllReadyH.nil))
  · go_simp
    refine hK.out _ _ ?_ (fun hHeld => ?_)
    · (try dsimp only); exact HKP.out _ HB8a.out
    clear hK K
    (try simp only [Act.put, List.setIfInBounds_toArray, List.set_cons_zero, List.set_cons_succ, List.getElem_toArray, List.getElem_cons_succ, List.getElem_cons_zero])
    refine wpAnyH_ready (rs := [13]) (by kernel_rfl) (by simp) ?_
    refine (AllReadyH.cons rfl (fun K hK => ?_) AllReadyH.nil)
    go_simp
    refine hK.out _ _ ?_ (fun hHeld => ?_)
    · (try dsimp only); exact HKP.out _ HB8c.out
    clear hK K
    (try simp only [Act.put, List.setIfInBounds_toArray, List.set_cons_zero, List.set_cons_succ, List.getElem_toArray, List.getElem_cons_succ, List.getElem_cons_zero])
    refine wpAnyH_ready (rs := [14]) (by kernel_rfl) (by simp) ?_
    refine AllReadyH.cons rfl (fun K hK => ?_) AllReadyH.nil
    go_simp
    go_at_call 16
    refine Calls.mono (alike_one (w := ((w8.alloc (objD D)).alloc (objD E))) (HD7.out.drew.below HB8c.out) (HE7.out.drew.below HB8c.out) (BoxC.below (BoxD.new_ w8 D) (below_new _ (objD E))) (by have h := BoxD.new_ (w8.alloc (objD D)) E; rw [World.size_alloc] at h; exact h) HSC.out) ?_
    rintro e w9 ⟨rfl, hb9⟩
    have HB9 := Lib.hid (HB8c.out.trans (hb9.mono HB8c.out.size))
    clear hb9
    refine hK.out _ _ ?_ (fun hHeld => ?_)
    · (try dsimp only); exact HKP.out _ HB9.out
    clear hK K
    (try simp only [Act.put, List.setIfInBounds_toArray, List.set_cons_zero, List.set_cons_succ, List.getElem_toArray, List.getElem_cons_succ, List.getElem_cons_zero])
    refine wpAnyH_take (i := 15) (v := ?_) rfl (by kernel_rfl) (by kernel_rfl) (by kernel_rfl) (fun _ _ _ h => h) (Or.inl ⟨by kernel_rfl, ?_⟩) (by assumption) ?_
    rotate_left
    · intro w hSw; (try dsimp only at hSw); go_simp <;> (try with_reducible rfl)
    (try simp only [Act.put, List.setIfInBounds_toArray, List.set_cons_zero, List.set_cons_succ, List.getElem_toArray, List.getElem_cons_succ, List.getElem_cons_zero])
    refine wpAnyH_take (i := 16) (v := ?_) rfl (by kernel_rfl) (by kernel_rfl) (by kernel_rfl) (fun _ _ _ h => h) (Or.inl ⟨by kernel_rfl, ?_⟩) (by assumption) ?_
    rotate_left
    · intro w hSw; (try dsimp only at hSw); go_simp <;> (try with_reducible rfl)
    (try simp only [Act.put, List.setIfInBounds_toArray, List.set_cons_zero, List.set_cons_succ, List.getElem_toArray, List.getElem_cons_succ, List.getElem_cons_zero])
    refine wpAnyH_take (i := 17) (v := ?_) rfl (by kernel_rfl) (by kernel_rfl) (by kernel_rfl) (fun _ _ _ h => h) (Or.inl ⟨by kernel_rfl, ?_⟩) (by assumption) ?_
    rotate_left
    · intro w hSw; (try dsimp only at hSw); go_simp <;> (try with_reducible rfl)
    (try simp only [Act.put, List.setIfInBounds_toArray, List.set_cons_zero, List.set_cons_succ, List.getElem_toArray, List.getElem_cons_succ, List.getElem_cons_zero])
    refine wpAnyH_take (i := 18) (v := ?_) rfl (by kernel_rfl) (by kernel_rfl) (by kernel_rfl) (fun _ _ _ h => h) (Or.inl ⟨by kernel_rfl, ?_⟩) (by assumption) ?_
    rotate_left
    · intro w hSw; (try dsimp only at hSw); go_simp <;> (try with_reducible rfl)
    (try simp only [Act.put, List.setIfInBounds_toArray, List.set_cons_zero, List.set_cons_succ, List.getElem_toArray, List.getElem_cons_succ, List.getElem_cons_zero])
    refine wpAnyH_take (i := 19) (v := ?_) rfl (by kernel_rfl) (by kernel_rfl) (by kernel_rfl) (fun _ _ _ h => h) (Or.inl ⟨by kernel_rfl, ?_⟩) (by assumption) ?_
    rotate_left
    · intro w hSw; (try dsimp only at hSw); go_simp <;> (try with_reducible rfl)
    (try simp only [Act.put, List.setIfInBounds_toArray, List.set_cons_zero, List.set_cons_succ, List.getElem_toArray, List.getElem_cons_succ, List.getElem_cons_zero])
    refine wpAnyH_take (i := 20) (v := ?_) rfl (by kernel_rfl) (by kernel_rfl) (by kernel_rfl) (fun _ _ _ h => h) (Or.inl ⟨by kernel_rfl, ?_⟩) (by assumption) ?_
    rotate_left
    · intro w hSw; (try dsimp only at hSw); go_simp <;> (try with_reducible rfl)
    (try simp only [Act.put, List.setIfInBounds_toArray, List.set_cons_zero, List.set_cons_succ, List.getElem_toArray, List.getElem_cons_succ, List.getElem_cons_zero])
    refine wpAnyH_take (i := 21) (v := ?_) rfl (by kernel_rfl) (by kernel_rfl) (by kernel_rfl) (fun _ _ _ h => h) (Or.inl ⟨by kernel_rfl, ?_⟩) (by assumption) ?_
    rotate_left
    · intro w hSw; (try dsimp only at hSw); go_simp <;> (try with_reducible rfl)
    (try simp only [Act.put, List.setIfInBounds_toArray, List.set_cons_zero, List.set_cons_succ, List.getElem_toArray, List.getElem_cons_succ, List.getElem_cons_zero])
    refine wpAnyH_take (i := 22) (v := ?_) rfl (by kernel_rfl) (by kernel_rfl) (by kernel_rfl) (fun _ _ _ h => h) (Or.inl ⟨by kernel_rfl, ?_⟩) (by assumption) ?_
    rotate_left
    · intro w hSw; (try dsimp only at hSw); go_simp <;> (try with_reducible rfl)
    (try simp only [Act.put, List.setIfInBounds_toArray, List.set_cons_zero, List.set_cons_succ, List.getElem_toArray, List.getElem_cons_succ, List.getElem_cons_zero])
    refine wpAnyH_take (i := 23) (v := ?_) rfl (by kernel_rfl) (by kernel_rfl) (by kernel_rfl) (fun _ _ _ h => h) (Or.inl ⟨by kernel_rfl, ?_⟩) (by assumption) ?_
    rotate_left
    · intro w hSw; (try dsimp only at hSw); go_simp <;> (try with_reducible rfl)
    (try simp only [Act.put, List.setIfInBounds_toArray, List.set_cons_zero, List.set_cons_succ, List.getElem_toArray, List.getElem_cons_succ, List.getElem_cons_zero])
    refine wpAnyH_take (i := 25) (v := ?_) rfl (by kernel_rfl) (by kernel_rfl) (by kernel_rfl) (fun _ _ _ h => h) (Or.inl ⟨by kernel_rfl, ?_⟩) (by assumption) ?_
    rotate_left
    · intro w hSw; (try dsimp only at hSw); go_simp <;> (try with_reducible rfl)
    (try simp only [Act.put, List.setIfInBounds_toArray, List.set_cons_zero, List.set_cons_succ, List.getElem_toArray, List.getElem_cons_succ, List.getElem_cons_zero])
    refine wpAnyH_ready (rs := [24]) (by kernel_rfl) (by simp) ?_
    refine AllReadyH.cons rfl (fun K hK => ?_) AllReadyH.nil
    go_simp
    go_at_call 17
    refine Calls.mono (may_one HXC.out.2.1) ?_
    rintro e w10 ⟨rfl, hb10⟩
    rw [HM.out]
    have HB10 := Lib.hid (HB9.out.trans (hb10.mono HB9.out.size))
    clear hb10
    refine hK.out _ _ ?_ (fun hHeld => ?_)
    · (try dsimp only); exact HKP.out _ HB10.out
    clear hK K
    (try simp only [Act.put, List.setIfInBounds_toArray, List.set_cons_zero, List.set_cons_succ, List.getElem_toArray, List.getElem_cons_succ, List.getElem_cons_zero])
    refine wpAnyH_ready (rs := [26]) (by kernel_rfl) (by simp) ?_
    refine AllReadyH.cons rfl (fun K hK => ?_) AllReadyH.nil
    go_simp
    go_at_call 18
    refine Calls.mono (rmay_one HXC.out.2.1) ?_
    rintro e w11 ⟨rfl, hb11⟩
    rw [HM.out]
    have HB11 := Lib.hid (HB10.out.trans (hb11.mono HB10.out.size))
    clear hb11
    refine hK.out _ _ ?_ (fun hHeld => ?_)
    · (try dsimp only); exact HKP.out _ HB11.out
    clear hK K
    (try simp only [Act.put, List.setIfInBounds_toArray, List.set_cons_zero, List.set_cons_succ, List.getElem_toArray, List.getElem_cons_succ, List.getElem_cons_zero])
    refine wpAnyH_take (i := 27) (v := ?_) rfl (by kernel_rfl) (by kernel_rfl) (by kernel_rfl) (fun _ _ _ h => h) (Or.inl ⟨by kernel_rfl, ?_⟩) (by assumption) ?_
    rotate_left
    · intro w hSw; (try dsimp only at hSw); go_simp <;> (try with_reducible rfl)
    (try simp only [Act.put, List.setIfInBounds_toArray, List.set_cons_zero, List.set_cons_succ, List.getElem_toArray, List.getElem_cons_succ, List.getElem_cons_zero])
    refine wpAnyH_take (i := 28) (v := ?_) rfl (by kernel_rfl) (by kernel_rfl) (by kernel_rfl) (fun _ _ _ h => h) (Or.inl ⟨by kernel_rfl, ?_⟩) (by assumption) ?_
    rotate_left
    · intro w hSw; (try dsimp only at hSw); go_simp <;> (try with_reducible rfl)
    (try simp only [Act.put, List.setIfInBounds_toArray, List.set_cons_zero, List.set_cons_succ, List.getElem_toArray, List.getElem_cons_succ, List.getElem_cons_zero])
    refine wpAnyH_done (by kernel_rfl) ?_ _
    have HF := Lib.hid (show Below w.heap.size w w11 from bbt (Below.drew_ HB7.out) HB11.out)
    have HX11 := Lib.hid (BoxC.below HX7.out.drew HB11.out)
    obtain ⟨x0, x1, x2, x3, x4⟩ := HX11.out
    have hxl := BoxC.lt HX11.out
    go_wp2
    go_ret
    exact ⟨rfl, HF.out⟩
  · go_simp
    refine hK.out _ _ ?_ (fun hHeld => ?_)
    · (try dsimp only); exact HKP.out _ HB8b.out
    clear hK K
    (try simp only [Act.put, List.setIfInBounds_toArray, List.set_cons_zero, List.set_cons_succ, List.getElem_toArray, List.getElem_cons_succ, List.getElem_cons_zero])
    refine wpAnyH_ready (rs := [11]) (by kernel_rfl) (by simp) ?_
    refine (AllReadyH.cons rfl (fun K hK => ?_) AllReadyH.nil)
    go_simp
    refine hK.out _ _ ?_ (fun hHeld => ?_)
    · (try dsimp only); exact HKP.out _ HB8d.out
    clear hK K
    (try simp only [Act.put, List.setIfInBounds_toArray, List.set_cons_zero, List.set_cons_succ, List.getElem_toArray, List.getElem_cons_succ, List.getElem_cons_zero])
    refine wpAnyH_ready (rs := [14]) (by kernel_rfl) (by simp) ?_
    refine AllReadyH.cons rfl (fun K hK => ?_) AllReadyH.nil
    go_simp
    go_at_call 16
    refine Calls.mono (alike_one (w := ((w8.alloc (objD E)).alloc (objD D))) (HD7.out.drew.below HB8d.out) (HE7.out.drew.below HB8d.out) (by have h := BoxD.new_ (w8.alloc (objD E)) D; rw [World.size_alloc] at h; exact h) (BoxC.below (BoxD.new_ w8 E) (below_new _ (objD D))) HSC.out) ?_
    rintro e w9 ⟨rfl, hb9⟩
    have HB9 := Lib.hid (HB8d.out.trans (hb9.mono HB8d.out.size))
    clear hb9
    refine hK.out _ _ ?_ (fun hHeld => ?_)
    · (try dsimp only); exact HKP.out _ HB9.out
    clear hK K
    (try simp only [Act.put, List.setIfInBounds_toArray, List.set_cons_zero, List.set_cons_succ, List.getElem_toArray, List.getElem_cons_succ, List.getElem_cons_zero])
    refine wpAnyH_take (i := 15) (v := ?_) rfl (by kernel_rfl) (by kernel_rfl) (by kernel_rfl) (fun _ _ _ h => h) (Or.inl ⟨by kernel_rfl, ?_⟩) (by assumption) ?_
    rotate_left
    · intro w hSw; (try dsimp only at hSw); go_simp <;> (try with_reducible rfl)
    (try simp only [Act.put, List.setIfInBounds_toArray, List.set_cons_zero, List.set_cons_succ, List.getElem_toArray, List.getElem_cons_succ, List.getElem_cons_zero])
    refine wpAnyH_take (i := 16) (v := ?_) rfl (by kernel_rfl) (by kernel_rfl) (by kernel_rfl) (fun _ _ _ h => h) (Or.inl ⟨by kernel_rfl, ?_⟩) (by assumption) ?_
    rotate_left
    · intro w hSw; (try dsimp only at hSw); go_simp <;> (try with_reducible rfl)
    (try simp only [Act.put, List.setIfInBounds_toArray, List.set_cons_zero, List.set_cons_succ, List.getElem_toArray, List.getElem_cons_succ, List.getElem_cons_zero])
    refine wpAnyH_take (i := 17) (v := ?_) rfl (by kernel_rfl) (by kernel_rfl) (by kernel_rfl) (fun _ _ _ h => h) (Or.inl ⟨by kernel_rfl, ?_⟩) (by assumption) ?_
    rotate_left
    · intro w hSw; (try dsimp only at hSw); go_simp <;> (try with_reducible rfl)
    (try simp only [Act.put, List.setIfInBounds_toArray, List.set_cons_zero, List.set_cons_succ, List.getElem_toArray, List.getElem_cons_succ, List.getElem_cons_zero])
    refine wpAnyH_take (i := 18) (v := ?_) rfl (by kernel_rfl) (by kernel_rfl) (by kernel_rfl) (fun _ _ _ h => h) (Or.inl ⟨by kernel_rfl, ?_⟩) (by assumption) ?_
    rotate_left
    · intro w hSw; (try dsimp only at hSw); go_simp <;> (try with_reducible rfl)
    (try simp only [Act.put, List.setIfInBounds_toArray, List.set_cons_zero, List.set_cons_succ, List.getElem_toArray, List.getElem_cons_succ, List.getElem_cons_zero])
    refine wpAnyH_take (i := 19) (v := ?_) rfl (by kernel_rfl) (by kernel_rfl) (by kernel_rfl) (fun _ _ _ h => h) (Or.inl ⟨by kernel_rfl, ?_⟩) (by assumption) ?_
    rotate_left
    · intro w hSw; (try dsimp only at hSw); go_simp <;> (try with_reducible rfl)
    (try simp only [Act.put, List.setIfInBounds_toArray, List.set_cons_zero, List.set_cons_succ, List.getElem_toArray, List.getElem_cons_succ, List.getElem_cons_zero])
    refine wpAnyH_take (i := 20) (v := ?_) rfl (by kernel_rfl) (by kernel_rfl) (by kernel_rfl) (fun _ _ _ h => h) (Or.inl ⟨by kernel_rfl, ?_⟩) (by assumption) ?_
    rotate_left
    · intro w hSw; (try dsimp only at hSw); go_simp <;> (try with_reducible rfl)
    (try simp only [Act.put, List.setIfInBounds_toArray, List.set_cons_zero, List.set_cons_succ, List.getElem_toArray, List.getElem_cons_succ, List.getElem_cons_zero])
    refine wpAnyH_take (i := 21) (v := ?_) rfl (by kernel_rfl) (by kernel_rfl) (by kernel_rfl) (fun _ _ _ h => h) (Or.inl ⟨by kernel_rfl, ?_⟩) (by assumption) ?_
    rotate_left
    · intro w hSw; (try dsimp only at hSw); go_simp <;> (try with_reducible rfl)
    (try simp only [Act.put, List.setIfInBounds_toArray, List.set_cons_zero, List.set_cons_succ, List.getElem_toArray, List.getElem_cons_succ, List.getElem_cons_zero])
    refine wpAnyH_take (i := 22) (v := ?_) rfl (by kernel_rfl) (by kernel_rfl) (by kernel_rfl) (fun _ _ _ h => h) (Or.inl ⟨by kernel_rfl, ?_⟩) (by assumption) ?_
    rotate_left
    · intro w hSw; (try dsimp only at hSw); go_simp <;> (try with_reducible rfl)
    (try simp only [Act.put, List.setIfInBounds_toArray, List.set_cons_zero, List.set_cons_succ, List.getElem_toArray, List.getElem_cons_succ, List.getElem_cons_zero])
    refine wpAnyH_take (i := 23) (v := ?_) rfl (by kernel_rfl) (by kernel_rfl) (by kernel_rfl) (fun _ _ _ h => h) (Or.inl ⟨by kernel_rfl, ?_⟩) (by assumption) ?_
    rotate_left
    · intro w hSw; (try dsimp only at hSw); go_simp <;> (try with_reducible rfl)
    (try simp only [Act.put, List.setIfInBounds_toArray, List.set_cons_zero, List.set_cons_succ, List.getElem_toArray, List.getElem_cons_succ, List.getElem_cons_zero])
    refine wpAnyH_take (i := 25) (v := ?_) rfl (by kernel_rfl) (by kernel_rfl) (by kernel_rfl) (fun _ _ _ h => h) (Or.inl ⟨by kernel_rfl, ?_⟩) (by assumption) ?_
    rotate_left
    · intro w hSw; (try dsimp only at hSw); go_simp <;> (try with_reducible rfl)
    (try simp only [Act.put, List.setIfInBounds_toArray, List.set_cons_zero, List.set_cons_succ, List.getElem_toArray, List.getElem_cons_succ, List.getElem_cons_zero])
    refine wpAnyH_ready (rs := [24]) (by kernel_rfl) (by simp) ?_
    refine AllReadyH.cons rfl (fun K hK => ?_) AllReadyH.nil
    go_simp
    go_at_call 17
    refine Calls.mono (may_one HXC.out.2.1) ?_
    rintro e w10 ⟨rfl, hb10⟩
    rw [HM.out]
    have HB10 := Lib.hid (HB9.out.trans (hb10.mono HB9.out.size))
    clear hb10
    refine hK.out _ _ ?_ (fun hHeld => ?_)
    · (try dsimp only); exact HKP.out _ HB10.out
    clear hK K
    (try simp only [Act.put, List.setIfInBounds_toArray, List.set_cons_zero, List.set_cons_succ, List.getElem_toArray, List.getElem_cons_succ, List.getElem_cons_zero])
    refine wpAnyH_ready (rs := [26]) (by kernel_rfl) (by simp) ?_
    refine AllReadyH.cons rfl (fun K hK => ?_) AllReadyH.nil
    go_simp
    go_at_call 18
    refine Calls.mono (rmay_one HXC.out.2.1) ?_
    rintro e w11 ⟨rfl, hb11⟩
    rw [HM.out]
    have HB11 := Lib.hid (HB10.out.trans (hb11.mono HB10.out.size))
    clear hb11
    refine hK.out _ _ ?_ (fun hHeld => ?_)
    · (try dsimp only); exact HKP.out _ HB11.out
    clear hK K
    (try simp only [Act.put, List.setIfInBounds_toArray, List.set_cons_zero, List.set_cons_succ, List.getElem_toArray, List.getElem_cons_succ, List.getElem_cons_zero])
    refine wpAnyH_take (i := 27) (v := ?_) rfl (by kernel_rfl) (by kernel_rfl) (by kernel_rfl) (fun _ _ _ h => h) (Or.inl ⟨by kernel_rfl, ?_⟩) (by assumption) ?_
    rotate_left
    · intro w hSw; (try dsimp only at hSw); go_simp <;> (try with_reducible rfl)
    (try simp only [Act.put, List.setIfInBounds_toArray, List.set_cons_zero, List.set_cons_succ, List.getElem_toArray, List.getElem_cons_succ, List.getElem_cons_zero])
    refine wpAnyH_take (i := 28) (v := ?_) rfl (by kernel_rfl) (by kernel_rfl) (by kernel_rfl) (fun _ _ _ h => h) (Or.inl ⟨by kernel_rfl, ?_⟩) (by assumption) ?_
    rotate_left
    · intro w hSw; (try dsimp only at hSw); go_simp <;> (try with_reducible rfl)
    (try simp only [Act.put, List.setIfInBounds_toArray, List.set_cons_zero, List.set_cons_succ, List.getElem_toArray, List.getElem_cons_succ, List.getElem_cons_zero])
    refine wpAnyH_done (by kernel_rfl) ?_ _
    have HF := Lib.hid (show Below w.heap.size w w11 from bbt (Below.drew_ HB7.out) HB11.out)
    have HX11 := Lib.hid (BoxC.below HX7.out.drew HB11.out)
    obtain ⟨x0, x1, x2, x3, x4⟩ := HX11.out
    have hxl := BoxC.lt HX11.out
    go_wp2
    go_ret
    exact ⟨rfl, HF.out⟩

set_option maxRecDepth 20000 in
set_option maxHeartbeats 4000000 in
theorem codes_yes (x : CellD) (A : Option Addr) (n c : Nat) (f : Nat → Nat) (w : World) (hx : HasC w x) (hv : Byt w (.slice A n c) n f) (hn : n ≤ 1000) (hm : mayP x.p x.q x.n) :
    Calls Try.prog 3 #[x.val, .slice A n c] w fun e w' => CodesPost w w' e := by
  have hN : encN x = 64 := if_pos hm
  have hC : encC x = 0 := if_pos hm
  have HM := Lib.hid (decide_eq_true hm)
  have HMM := Lib.hid hm
  have HXC := Lib.hid hx
  have HV := Lib.hid hv
  have hxn : ¬ ((x.n : Int) > 1000) := by have := hx.2.2; omega
  have hnn : ¬ ((n : Int) > 1000) := by omega
  have HX0 := Lib.hid (BoxD.new_ w x)
  have HB0 := Lib.hid (below_new w (objD x))
  obtain ⟨C, hCd⟩ : ∃ C, decC n f = C := ⟨_, rfl⟩
  have HCD := Lib.hid hCd
  have HEN := Lib.hid hN
  have HEC := Lib.hid hC
  clear hm hx hv hCd hN hC
  go_enter Try.func3, Try.ntmps3
  go_wp2_with (first
    | (go_at_call 10; refine (awake_any _).mono ?_; rintro e w1 ⟨rfl, hb1⟩; have HX1 := Lib.hid (BoxC.below HX0.out hb1); have HB1 := Lib.hid (bbt HB0.out hb1); clear hb1; obtain ⟨x0, x1, x2, x3, x4⟩ := HX1.out; have hxl := BoxC.lt HX1.out)
    | (go_at_call 11; refine Calls.mono (encode_one (HXC.out.below HB1.out)) ?_; rintro e w2 ⟨⟨v2, rfl, hv2⟩, hb2⟩; have HS2 := Lib.hid hv2; obtain ⟨sa, sc, rfl, _⟩ := hv2; have HX2 := Lib.hid (BoxC.below HX1.out hb2); have HB2 := Lib.hid (bbt HB1.out hb2); clear hb2 x0 x1 x2 x3 x4 hxl; obtain ⟨x0, x1, x2, x3, x4⟩ := HX2.out; have hxl := BoxC.lt HX2.out; rw [HEC.out])
    | (go_at_call 12; refine Calls.mono (rencode_one (HXC.out.below HB2.out)) ?_; rintro e w3 ⟨⟨v3, rfl, hv3⟩, hb3⟩; have HT3 := Lib.hid hv3; obtain ⟨ta, tc, rfl, _⟩ := hv3; have HS3 := Lib.hid (HS2.out.below hb3); have HX3 := Lib.hid (BoxC.below HX2.out hb3); have HB3 := Lib.hid (bbt HB2.out hb3); clear hb3 x0 x1 x2 x3 x4 hxl; rw [HEC.out])
    | (go_at_call 13; refine Calls.mono (decode_by (HV.out.below HB3.out) (by omega)) ?_; intro e w4 h4; obtain ⟨⟨D, rfl, hD, hsD⟩, hb4⟩ := h4.one HV.out.lt; rw [HCD.out]; have HD4 := Lib.hid hD; have HSD := Lib.hid hsD; have HS4 := Lib.hid (HS3.out.below hb4); have HT4 := Lib.hid (HT3.out.below hb4); have HX4 := Lib.hid (BoxC.below HX3.out hb4); have HB4 := Lib.hid (bbt HB3.out hb4); clear h4 hD hsD hb4)
    | (go_at_call 14; refine Calls.mono (rdecode_by (HV.out.below (bbt HB4.out (below_new w4 (objD D)))) (by omega)) ?_; intro e w6 h6; obtain ⟨⟨E, rfl, hE, hsE⟩, hb6⟩ := h6.one HV.out.lt; rw [HCD.out]; have hb46 := bbt (below_new w4 (objD D)) hb6; have HE6 := Lib.hid hE; have HSE := Lib.hid hsE; have HS6 := Lib.hid (HS4.out.below hb46); have HT6 := Lib.hid (HT4.out.below hb46); have HX6 := Lib.hid (BoxC.below HX4.out hb46); have HD6 := Lib.hid (HD4.out.below hb46); have HY6 := Lib.hid (BoxC.below (BoxD.new_ w4 D) hb6); have HB6 := Lib.hid (bbt HB4.out hb46); clear h6 hE hsE hb6 hb46))
  have hb67 := below_new w6 (objD E)
  have HE7 := Lib.hid (HE6.out.below hb67)
  have HS7 := Lib.hid (HS6.out.below hb67)
  have HT7 := Lib.hid (HT6.out.below hb67)
  have HX7 := Lib.hid (BoxC.below HX6.out hb67)
  have HD7 := Lib.hid (HD6.out.below hb67)
  have HY7 := Lib.hid (BoxC.below HY6.out hb67)
  have HZ7 := Lib.hid (BoxD.new_ w6 E)
  have HB7 := Lib.hid (bbt HB6.out hb67)
  have HXC7 := Lib.hid (HXC.out.below HB7.out)
  have HSC := Lib.hid (HSD.out.trans2 HSE.out)
  clear hb67 hxn hnn
  change Code.wp _ _ _ _ (w6.alloc (objD E))
  generalize w6.alloc (objD E) = w7 at *
  generalize hYB : w4.heap.size = YB at *
  generalize hZB : w6.heap.size = ZB at *
  clear hYB hZB
  have HKP : Hid (∀ u, Below w7.drew.heap.size w7.drew u → u.cell? ⟨w.heap.size, 0, none⟩ = some (.int .u32 (x.g : Nat)) ∧ u.cell? ⟨w.heap.size, 1, none⟩ = some (.int .u32 (x.s : Nat)) ∧ u.cell? ⟨w.heap.size, 2, none⟩ = some (.int .i64 x.p) ∧ u.cell? ⟨w.heap.size, 3, none⟩ = some (.int .i64 x.q) ∧ u.cell? ⟨w.heap.size, 4, none⟩ = some (.slice x.A x.n x.c) ∧ u.cell? ⟨YB, 0, none⟩ = some (.int .u32 (D.g : Nat)) ∧ u.cell? ⟨YB, 1, none⟩ = some (.int .u32 (D.s : Nat)) ∧ u.cell? ⟨YB, 2, none⟩ = some (.int .i64 D.p) ∧ u.cell? ⟨YB, 3, none⟩ = some (.int .i64 D.q) ∧ u.cell? ⟨YB, 4, none⟩ = some (.slice D.A D.n D.c) ∧ u.cell? ⟨ZB, 0, none⟩ = some (.int .u32 (E.g : Nat)) ∧ u.cell? ⟨ZB, 1, none⟩ = some (.int .u32 (E.s : Nat)) ∧ u.cell? ⟨ZB, 2, none⟩ = some (.int .i64 E.p) ∧ u.cell? ⟨ZB, 3, none⟩ = some (.int .i64 E.q) ∧ u.cell? ⟨ZB, 4, none⟩ = some (.slice E.A E.n E.c)) := fun u hu => ⟨(HX7.out.drew.below hu).1, (HX7.out.drew.below hu).2.1, (HX7.out.drew.below hu).2.2.1, (HX7.out.drew.below hu).2.2.2.1, (HX7.out.drew.below hu).2.2.2.2, (HY7.out.drew.below hu).1, (HY7.out.drew.below hu).2.1, (HY7.out.drew.below hu).2.2.1, (HY7.out.drew.below hu).2.2.2.1, (HY7.out.drew.below hu).2.2.2.2, (HZ7.out.drew.below hu).1, (HZ7.out.drew.below hu).2.1, (HZ7.out.drew.below hu).2.2.1, (HZ7.out.drew.below hu).2.2.2.1, (HZ7.out.drew.below hu).2.2.2.2⟩
  have HB70 := Lib.hid (Below.refl w7.drew.heap.size w7.drew)
  refine wp_region_held_drew (S := (fun w' => w'.cell? ⟨w.heap.size, 0, none⟩ = some (.int .u32 (x.g : Nat)) ∧ w'.cell? ⟨w.heap.size, 1, none⟩ = some (.int .u32 (x.s : Nat)) ∧ w'.cell? ⟨w.heap.size, 2, none⟩ = some (.int .i64 x.p) ∧ w'.cell? ⟨w.heap.size, 3, none⟩ = some (.int .i64 x.q) ∧ w'.cell? ⟨w.heap.size, 4, none⟩ = some (.slice x.A x.n x.c) ∧ w'.cell? ⟨YB, 0, none⟩ = some (.int .u32 (D.g : Nat)) ∧ w'.cell? ⟨YB, 1, none⟩ = some (.int .u32 (D.s : Nat)) ∧ w'.cell? ⟨YB, 2, none⟩ = some (.int .i64 D.p) ∧ w'.cell? ⟨YB, 3, none⟩ = some (.int .i64 D.q) ∧ w'.cell? ⟨YB, 4, none⟩ = some (.slice D.A D.n D.c) ∧ w'.cell? ⟨ZB, 0, none⟩ = some (.int .u32 (E.g : Nat)) ∧ w'.cell? ⟨ZB, 1, none⟩ = some (.int .u32 (E.s : Nat)) ∧ w'.cell? ⟨ZB, 2, none⟩ = some (.int .i64 E.p) ∧ w'.cell? ⟨ZB, 3, none⟩ = some (.int .i64 E.q) ∧ w'.cell? ⟨ZB, 4, none⟩ = some (.slice E.A E.n E.c))) (by kernel_rfl) ?_ (fun hHeld => ?_)
  · exact HKP.out _ HB70.out
  refine wpAnyH_take (i := 0) (v := ?_) rfl (by kernel_rfl) (by kernel_rfl) (by kernel_rfl) (fun _ _ _ h => h) (Or.inl ⟨by kernel_rfl, ?_⟩) (by assumption) ?_
  rotate_left
  · intro w hSw; (try dsimp only at hSw); go_simp <;> (try with_reducible rfl)
  (try simp only [Act.put, List.setIfInBounds_toArray, List.set_cons_zero, List.set_cons_succ, List.getElem_toArray, List.getElem_cons_succ, List.getElem_cons_zero])
  refine wpAnyH_take (i := 1) (v := ?_) rfl (by kernel_rfl) (by kernel_rfl) (by kernel_rfl) (fun _ _ _ h => h) (Or.inl ⟨by kernel_rfl, ?_⟩) (by assumption) ?_
  rotate_left
  · intro w hSw; (try dsimp only at hSw); go_simp <;> (try with_reducible rfl)
  (try simp only [Act.put, List.setIfInBounds_toArray, List.set_cons_zero, List.set_cons_succ, List.getElem_toArray, List.getElem_cons_succ, List.getElem_cons_zero])
  refine wpAnyH_ready (rs := [2]) (by kernel_rfl) (by simp) ?_
  refine AllReadyH.cons rfl (fun K hK => ?_) AllReadyH.nil
  go_simp
  go_at_call 15
  refine Calls.mono (rows_by HS7.out.drew HT7.out.drew (by rw [HEN.out]; omega) (by rw [HEN.out]; omega)) ?_
  rintro e w8 ⟨⟨b8, rfl, hb8⟩, hbl8⟩
  obtain rfl := hb8.2 ⟨rfl, fun _ _ => rfl⟩
  have HB8 := Lib.hid hbl8
  clear hb8 hbl8
  refine hK.out _ _ ?_ (fun hHeld => ?_)
  · (try dsimp only); exact HKP.out _ HB8.out
  clear hK K
  (try simp only [Act.put, List.setIfInBounds_toArray, List.set_cons_zero, List.set_cons_succ, List.getElem_toArray, List.getElem_cons_succ, List.getElem_cons_zero])
  refine wpAnyH_take (i := 3) (v := ?_) rfl (by kernel_rfl) (by kernel_rfl) (by kernel_rfl) (fun _ _ _ h => h) (Or.inl ⟨by kernel_rfl, ?_⟩) (by assumption) ?_
  rotate_left
  · intro w hSw; (try dsimp only at hSw); go_simp <;> (try with_reducible rfl)
  (try simp only [Act.put, List.setIfInBounds_toArray, List.set_cons_zero, List.set_cons_succ, List.getElem_toArray, List.getElem_cons_succ, List.getElem_cons_zero])
  refine wpAnyH_take (i := 4) (v := ?_) rfl (by kernel_rfl) (by kernel_rfl) (by kernel_rfl) (fun _ _ _ h => h) (Or.inl ⟨by kernel_rfl, ?_⟩) (by assumption) ?_
  rotate_left
  · intro w hSw; (try dsimp only at hSw); go_simp <;> (try with_reducible rfl)
  (try simp only [Act.put, List.setIfInBounds_toArray, List.set_cons_zero, List.set_cons_succ, List.getElem_toArray, List.getElem_cons_succ, List.getElem_cons_zero])
  refine wpAnyH_take (i := 5) (v := ?_) rfl (by kernel_rfl) (by kernel_rfl) (by kernel_rfl) (fun _ _ _ h => h) (Or.inl ⟨by kernel_rfl, ?_⟩) (by assumption) ?_
  rotate_left
  · intro w hSw; (try dsimp only at hSw); go_simp <;> (try with_reducible rfl)
  (try simp only [Act.put, List.setIfInBounds_toArray, List.set_cons_zero, List.set_cons_succ, List.getElem_toArray, List.getElem_cons_succ, List.getElem_cons_zero])
  refine wpAnyH_take (i := 6) (v := ?_) rfl (by kernel_rfl) (by kernel_rfl) (by kernel_rfl) (fun _ _ _ h => h) (Or.inl ⟨by kernel_rfl, ?_⟩) (by assumption) ?_
  rotate_left
  · intro w hSw; (try dsimp only at hSw); go_simp <;> (try with_reducible rfl)
  (try simp only [Act.put, List.setIfInBounds_toArray, List.set_cons_zero, List.set_cons_succ, List.getElem_toArray, List.getElem_cons_succ, List.getElem_cons_zero])
  refine wpAnyH_take (i := 7) (v := ?_) rfl (by kernel_rfl) (by kernel_rfl) (by kernel_rfl) (fun _ _ _ h => h) (Or.inl ⟨by kernel_rfl, ?_⟩) (by assumption) ?_
  rotate_left
  · intro w hSw; (try dsimp only at hSw); go_simp <;> (try with_reducible rfl)
  (try simp only [Act.put, List.setIfInBounds_toArray, List.set_cons_zero, List.set_cons_succ, List.getElem_toArray, List.getElem_cons_succ, List.getElem_cons_zero])
  refine wpAnyH_take (i := 8) (v := ?_) rfl (by kernel_rfl) (by kernel_rfl) (by kernel_rfl) (fun _ _ _ h => h) (Or.inl ⟨by kernel_rfl, ?_⟩) (by assumption) ?_
  rotate_left
  · intro w hSw; (try dsimp only at hSw); go_simp <;> (try with_reducible rfl)
  (try simp only [Act.put, List.setIfInBounds_toArray, List.set_cons_zero, List.set_cons_succ, List.getElem_toArray, List.getElem_cons_succ, List.getElem_cons_zero])
  refine wpAnyH_take (i := 9) (v := ?_) rfl (by kernel_rfl) (by kernel_rfl) (by kernel_rfl) (fun _ _ _ h => h) (Or.inl ⟨by kernel_rfl, ?_⟩) (by assumption) ?_
  rotate_left
  · intro w hSw; (try dsimp only at hSw); go_simp <;> (try with_reducible rfl)
  (try simp only [Act.put, List.setIfInBounds_toArray, List.set_cons_zero, List.set_cons_succ, List.getElem_toArray, List.getElem_cons_succ, List.getElem_cons_zero])
  refine wpAnyH_take (i := 10) (v := ?_) rfl (by kernel_rfl) (by kernel_rfl) (by kernel_rfl) (fun _ _ _ h => h) (Or.inl ⟨by kernel_rfl, ?_⟩) (by assumption) ?_
  rotate_left
  · intro w hSw; (try dsimp only at hSw); go_simp <;> (try with_reducible rfl)
  (try simp only [Act.put, List.setIfInBounds_toArray, List.set_cons_zero, List.set_cons_succ, List.getElem_toArray, List.getElem_cons_succ, List.getElem_cons_zero])
  refine wpAnyH_take (i := 12) (v := ?_) rfl (by kernel_rfl) (by kernel_rfl) (by kernel_rfl) (fun _ _ _ h => h) (Or.inl ⟨by kernel_rfl, ?_⟩) (by assumption) ?_
  rotate_left
  · intro w hSw; (try dsimp only at hSw); go_simp <;> (try with_reducible rfl)
  (try simp only [Act.put, List.setIfInBounds_toArray, List.set_cons_zero, List.set_cons_succ, List.getElem_toArray, List.getElem_cons_succ, List.getElem_cons_zero])
  have HB8a := Lib.hid (show Below w7.drew.heap.size w7.drew (w8.alloc (objD D)) from HB8.out.trans ((below_new w8 (objD D)).mono HB8.out.size))
  have HB8b := Lib.hid (show Below w7.drew.heap.size w7.drew (w8.alloc (objD E)) from HB8.out.trans ((below_new w8 (objD E)).mono HB8.out.size))
  have HB8c := Lib.hid (show Below w7.drew.heap.size w7.drew ((w8.alloc (objD D)).alloc (objD E)) from HB8a.out.trans ((below_new _ (objD E)).mono HB8a.out.size))
  have HB8d := Lib.hid (show Below w7.drew.heap.size w7.drew ((w8.alloc (objD E)).alloc (objD D)) from HB8b.out.trans ((below_new _ (objD D)).mono HB8b.out.size))
  refine wpAnyH_ready (rs := [11, 13]) (by kernel_rfl) (by simp) ?_
  refine (AllReadyH.cons rfl (fun K hK => ?_) (AllReadyH.cons rfl (fun K hK => ?_) AllReadyH.nil))
  · go_simp
    refine hK.out _ _ ?_ (fun hHeld => ?_)
    · (try dsimp only); exact HKP.out _ HB8a.out
    clear hK K
    (try simp only [Act.put, List.setIfInBounds_toArray, List.set_cons_zero, List.set_cons_succ, List.getElem_toArray, List.getElem_cons_succ, List.getElem_cons_zero])
    refine wpAnyH_ready (rs := [13]) (by kernel_rfl) (by simp) ?_
    refine (AllReadyH.cons rfl (fun K hK => ?_) AllReadyH.nil)
    go_simp
    refine hK.out _ _ ?_ (fun hHeld => ?_)
    · (try dsimp only); exact HKP.out _ HB8c.out
    clear hK K
    (try simp only [Act.put, List.setIfInBounds_toArray, List.set_cons_zero, List.set_cons_succ, List.getElem_toArray, List.getElem_cons_succ, List.getElem_cons_zero])
    refine wpAnyH_ready (rs := [14]) (by kernel_rfl) (by simp) ?_
    refine AllReadyH.cons rfl (fun K hK => ?_) AllReadyH.nil
    go_simp
    go_at_call 16
    refine Calls.mono (alike_one (w := ((w8.alloc (objD D)).alloc (objD E))) (HD7.out.drew.below HB8c.out) (HE7.out.drew.below HB8c.out) (BoxC.below (BoxD.new_ w8 D) (below_new _ (objD E))) (by have h := BoxD.new_ (w8.alloc (objD D)) E; rw [World.size_alloc] at h; exact h) HSC.out) ?_
    rintro e w9 ⟨rfl, hb9⟩
    have HB9 := Lib.hid (HB8c.out.trans (hb9.mono HB8c.out.size))
    clear hb9
    refine hK.out _ _ ?_ (fun hHeld => ?_)
    · (try dsimp only); exact HKP.out _ HB9.out
    clear hK K
    (try simp only [Act.put, List.setIfInBounds_toArray, List.set_cons_zero, List.set_cons_succ, List.getElem_toArray, List.getElem_cons_succ, List.getElem_cons_zero])
    refine wpAnyH_take (i := 15) (v := ?_) rfl (by kernel_rfl) (by kernel_rfl) (by kernel_rfl) (fun _ _ _ h => h) (Or.inl ⟨by kernel_rfl, ?_⟩) (by assumption) ?_
    rotate_left
    · intro w hSw; (try dsimp only at hSw); go_simp <;> (try with_reducible rfl)
    (try simp only [Act.put, List.setIfInBounds_toArray, List.set_cons_zero, List.set_cons_succ, List.getElem_toArray, List.getElem_cons_succ, List.getElem_cons_zero])
    refine wpAnyH_take (i := 16) (v := ?_) rfl (by kernel_rfl) (by kernel_rfl) (by kernel_rfl) (fun _ _ _ h => h) (Or.inl ⟨by kernel_rfl, ?_⟩) (by assumption) ?_
    rotate_left
    · intro w hSw; (try dsimp only at hSw); go_simp <;> (try with_reducible rfl)
    (try simp only [Act.put, List.setIfInBounds_toArray, List.set_cons_zero, List.set_cons_succ, List.getElem_toArray, List.getElem_cons_succ, List.getElem_cons_zero])
    refine wpAnyH_take (i := 17) (v := ?_) rfl (by kernel_rfl) (by kernel_rfl) (by kernel_rfl) (fun _ _ _ h => h) (Or.inl ⟨by kernel_rfl, ?_⟩) (by assumption) ?_
    rotate_left
    · intro w hSw; (try dsimp only at hSw); go_simp <;> (try with_reducible rfl)
    (try simp only [Act.put, List.setIfInBounds_toArray, List.set_cons_zero, List.set_cons_succ, List.getElem_toArray, List.getElem_cons_succ, List.getElem_cons_zero])
    refine wpAnyH_take (i := 18) (v := ?_) rfl (by kernel_rfl) (by kernel_rfl) (by kernel_rfl) (fun _ _ _ h => h) (Or.inl ⟨by kernel_rfl, ?_⟩) (by assumption) ?_
    rotate_left
    · intro w hSw; (try dsimp only at hSw); go_simp <;> (try with_reducible rfl)
    (try simp only [Act.put, List.setIfInBounds_toArray, List.set_cons_zero, List.set_cons_succ, List.getElem_toArray, List.getElem_cons_succ, List.getElem_cons_zero])
    refine wpAnyH_take (i := 19) (v := ?_) rfl (by kernel_rfl) (by kernel_rfl) (by kernel_rfl) (fun _ _ _ h => h) (Or.inl ⟨by kernel_rfl, ?_⟩) (by assumption) ?_
    rotate_left
    · intro w hSw; (try dsimp only at hSw); go_simp <;> (try with_reducible rfl)
    (try simp only [Act.put, List.setIfInBounds_toArray, List.set_cons_zero, List.set_cons_succ, List.getElem_toArray, List.getElem_cons_succ, List.getElem_cons_zero])
    refine wpAnyH_take (i := 20) (v := ?_) rfl (by kernel_rfl) (by kernel_rfl) (by kernel_rfl) (fun _ _ _ h => h) (Or.inl ⟨by kernel_rfl, ?_⟩) (by assumption) ?_
    rotate_left
    · intro w hSw; (try dsimp only at hSw); go_simp <;> (try with_reducible rfl)
    (try simp only [Act.put, List.setIfInBounds_toArray, List.set_cons_zero, List.set_cons_succ, List.getElem_toArray, List.getElem_cons_succ, List.getElem_cons_zero])
    refine wpAnyH_take (i := 21) (v := ?_) rfl (by kernel_rfl) (by kernel_rfl) (by kernel_rfl) (fun _ _ _ h => h) (Or.inl ⟨by kernel_rfl, ?_⟩) (by assumption) ?_
    rotate_left
    · intro w hSw; (try dsimp only at hSw); go_simp <;> (try with_reducible rfl)
    (try simp only [Act.put, List.setIfInBounds_toArray, List.set_cons_zero, List.set_cons_succ, List.getElem_toArray, List.getElem_cons_succ, List.getElem_cons_zero])
    refine wpAnyH_take (i := 22) (v := ?_) rfl (by kernel_rfl) (by kernel_rfl) (by kernel_rfl) (fun _ _ _ h => h) (Or.inl ⟨by kernel_rfl, ?_⟩) (by assumption) ?_
    rotate_left
    · intro w hSw; (try dsimp only at hSw); go_simp <;> (try with_reducible rfl)
    (try simp only [Act.put, List.setIfInBounds_toArray, List.set_cons_zero, List.set_cons_succ, List.getElem_toArray, List.getElem_cons_succ, List.getElem_cons_zero])
    refine wpAnyH_take (i := 23) (v := ?_) rfl (by kernel_rfl) (by kernel_rfl) (by kernel_rfl) (fun _ _ _ h => h) (Or.inl ⟨by kernel_rfl, ?_⟩) (by assumption) ?_
    rotate_left
    · intro w hSw; (try dsimp only at hSw); go_simp <;> (try with_reducible rfl)
    (try simp only [Act.put, List.setIfInBounds_toArray, List.set_cons_zero, List.set_cons_succ, List.getElem_toArray, List.getElem_cons_succ, List.getElem_cons_zero])
    refine wpAnyH_take (i := 25) (v := ?_) rfl (by kernel_rfl) (by kernel_rfl) (by kernel_rfl) (fun _ _ _ h => h) (Or.inl ⟨by kernel_rfl, ?_⟩) (by assumption) ?_
    rotate_left
    · intro w hSw; (try dsimp only at hSw); go_simp <;> (try with_reducible rfl)
    (try simp only [Act.put, List.setIfInBounds_toArray, List.set_cons_zero, List.set_cons_succ, List.getElem_toArray, List.getElem_cons_succ, List.getElem_cons_zero])
    refine wpAnyH_ready (rs := [24]) (by kernel_rfl) (by simp) ?_
    refine AllReadyH.cons rfl (fun K hK => ?_) AllReadyH.nil
    go_simp
    go_at_call 17
    refine Calls.mono (may_one HXC.out.2.1) ?_
    rintro e w10 ⟨rfl, hb10⟩
    rw [HM.out]
    have HB10 := Lib.hid (HB9.out.trans (hb10.mono HB9.out.size))
    clear hb10
    refine hK.out _ _ ?_ (fun hHeld => ?_)
    · (try dsimp only); exact HKP.out _ HB10.out
    clear hK K
    (try simp only [Act.put, List.setIfInBounds_toArray, List.set_cons_zero, List.set_cons_succ, List.getElem_toArray, List.getElem_cons_succ, List.getElem_cons_zero])
    refine wpAnyH_ready (rs := [26]) (by kernel_rfl) (by simp) ?_
    refine AllReadyH.cons rfl (fun K hK => ?_) AllReadyH.nil
    go_simp
    go_at_call 18
    refine Calls.mono (rmay_one HXC.out.2.1) ?_
    rintro e w11 ⟨rfl, hb11⟩
    rw [HM.out]
    have HB11 := Lib.hid (HB10.out.trans (hb11.mono HB10.out.size))
    clear hb11
    refine hK.out _ _ ?_ (fun hHeld => ?_)
    · (try dsimp only); exact HKP.out _ HB11.out
    clear hK K
    (try simp only [Act.put, List.setIfInBounds_toArray, List.set_cons_zero, List.set_cons_succ, List.getElem_toArray, List.getElem_cons_succ, List.getElem_cons_zero])
    refine wpAnyH_take (i := 27) (v := ?_) rfl (by kernel_rfl) (by kernel_rfl) (by kernel_rfl) (fun _ _ _ h => h) (Or.inl ⟨by kernel_rfl, ?_⟩) (by assumption) ?_
    rotate_left
    · intro w hSw; (try dsimp only at hSw); go_simp <;> (try with_reducible rfl)
    (try simp only [Act.put, List.setIfInBounds_toArray, List.set_cons_zero, List.set_cons_succ, List.getElem_toArray, List.getElem_cons_succ, List.getElem_cons_zero])
    refine wpAnyH_take (i := 28) (v := ?_) rfl (by kernel_rfl) (by kernel_rfl) (by kernel_rfl) (fun _ _ _ h => h) (Or.inl ⟨by kernel_rfl, ?_⟩) (by assumption) ?_
    rotate_left
    · intro w hSw; (try dsimp only at hSw); go_simp <;> (try with_reducible rfl)
    (try simp only [Act.put, List.setIfInBounds_toArray, List.set_cons_zero, List.set_cons_succ, List.getElem_toArray, List.getElem_cons_succ, List.getElem_cons_zero])
    refine wpAnyH_done (by kernel_rfl) ?_ _
    have HF := Lib.hid (show Below w.heap.size w w11 from bbt (Below.drew_ HB7.out) HB11.out)
    have HX11 := Lib.hid (BoxC.below HX7.out.drew HB11.out)
    obtain ⟨x0, x1, x2, x3, x4⟩ := HX11.out
    have hxl := BoxC.lt HX11.out
    have HSS := Lib.hid ((HS7.out.drew.below HB11.out).cast (m := 64) (g := encF x) HEN.out (fun _ _ => rfl))
    go_wp2_with (first
      | (go_at_call 13; refine Calls.mono (decode_i (g := (x.g : Nat)) (s := (x.s : Nat)) ⟨by omega, by have := HXC.out.2.1.1; omega⟩ ⟨by omega, by have := HXC.out.2.1.2.1; omega⟩ HMM.out HXC.out.2.1.2.2.2.2.2.2.2.2.1 HSS.out) ?_; rintro e w12 ⟨⟨U, uc, rfl, hu12⟩, hb12⟩; have HXC12 := Lib.hid (HXC.out.below (bbt HF.out hb12)); have HX12 := Lib.hid (BoxC.below HX11.out hb12); have HB12 := Lib.hid (bbt HF.out hb12); obtain ⟨uA, uc', hu1, hu2, hu3, hu4⟩ := hu12; cases hu1; have HUC12 := Lib.hid (show HasC w12 (uD x U uc) from ⟨hu3, ⟨HXC.out.2.1.1, HXC.out.2.1.2.1, HXC.out.2.1.2.2.1, HXC.out.2.1.2.2.2.1, HXC.out.2.1.2.2.2.2.1, HXC.out.2.1.2.2.2.2.2.1, hu2, HXC.out.2.1.2.2.2.2.2.2.2.1, hu4, fun h0 => absurd HMM.out (by have h1 := hu3; intro h2; unfold mayP at h2; obtain ⟨ad0, e0, _⟩ := h1 0 (by omega); have e1 : U = none := h0; rw [e1] at e0; cases e0)⟩, HXC.out.2.2⟩); clear hu2 hu3 hu4 hb12 x0 x1 x2 x3 x4 hxl; have hb13 := below_new w12 (objD (uD x U uc)); have hb14 := below_new (w12.alloc (objD (uD x U uc))) (objD (uD x U uc)); have hb15 := below_new ((w12.alloc (objD (uD x U uc))).alloc (objD (uD x U uc))) (objD x); obtain ⟨u0, u1, u2, u3, u4⟩ := BoxD.new_ w12 (uD x U uc); have hul := BoxC.lt (BoxD.new_ w12 (uD x U uc)); have HX14 := Lib.hid (BoxC.below (BoxC.below HX12.out hb13) hb14); obtain ⟨x0, x1, x2, x3, x4⟩ := HX14.out; have hxl := BoxC.lt HX14.out; have HB15 := Lib.hid (bbt (bbt (bbt HB12.out hb13) hb14) hb15); have HU15 := Lib.hid (((HUC12.out.below hb13).below hb14).below hb15); have HXC15 := Lib.hid (((HXC12.out.below hb13).below hb14).below hb15); have HP15 := Lib.hid (BoxC.below (BoxD.new_ (w12.alloc (objD (uD x U uc))) (uD x U uc)) hb15); have HQ15 := Lib.hid (BoxD.new_ ((w12.alloc (objD (uD x U uc))).alloc (objD (uD x U uc))) x); clear hb13 hb14 hb15)
      | (go_at_call 16; refine Calls.mono (alike_one (D := uD x U uc) (E := x) HU15.out HXC15.out (by have h := HP15.out; simpa using h) (by have h := HQ15.out; simpa using h) ⟨rfl, rfl, rfl, rfl, rfl, fun _ _ => rfl⟩) ?_; rintro e w16 ⟨rfl, hb16⟩))
    go_ret
    exact ⟨rfl, bbt HB15.out hb16⟩
  · go_simp
    refine hK.out _ _ ?_ (fun hHeld => ?_)
    · (try dsimp only); exact HKP.out _ HB8b.out
    clear hK K
    (try simp only [Act.put, List.setIfInBounds_toArray, List.set_cons_zero, List.set_cons_succ, List.getElem_toArray, List.getElem_cons_succ, List.getElem_cons_zero])
    refine wpAnyH_ready (rs := [11]) (by kernel_rfl) (by simp) ?_
    refine (AllReadyH.cons rfl (fun K hK => ?_) AllReadyH.nil)
    go_simp
    refine hK.out _ _ ?_ (fun hHeld => ?_)
    · (try dsimp only); exact HKP.out _ HB8d.out
    clear hK K
    (try simp only [Act.put, List.setIfInBounds_toArray, List.set_cons_zero, List.set_cons_succ, List.getElem_toArray, List.getElem_cons_succ, List.getElem_cons_zero])
    refine wpAnyH_ready (rs := [14]) (by kernel_rfl) (by simp) ?_
    refine AllReadyH.cons rfl (fun K hK => ?_) AllReadyH.nil
    go_simp
    go_at_call 16
    refine Calls.mono (alike_one (w := ((w8.alloc (objD E)).alloc (objD D))) (HD7.out.drew.below HB8d.out) (HE7.out.drew.below HB8d.out) (by have h := BoxD.new_ (w8.alloc (objD E)) D; rw [World.size_alloc] at h; exact h) (BoxC.below (BoxD.new_ w8 E) (below_new _ (objD D))) HSC.out) ?_
    rintro e w9 ⟨rfl, hb9⟩
    have HB9 := Lib.hid (HB8d.out.trans (hb9.mono HB8d.out.size))
    clear hb9
    refine hK.out _ _ ?_ (fun hHeld => ?_)
    · (try dsimp only); exact HKP.out _ HB9.out
    clear hK K
    (try simp only [Act.put, List.setIfInBounds_toArray, List.set_cons_zero, List.set_cons_succ, List.getElem_toArray, List.getElem_cons_succ, List.getElem_cons_zero])
    refine wpAnyH_take (i := 15) (v := ?_) rfl (by kernel_rfl) (by kernel_rfl) (by kernel_rfl) (fun _ _ _ h => h) (Or.inl ⟨by kernel_rfl, ?_⟩) (by assumption) ?_
    rotate_left
    · intro w hSw; (try dsimp only at hSw); go_simp <;> (try with_reducible rfl)
    (try simp only [Act.put, List.setIfInBounds_toArray, List.set_cons_zero, List.set_cons_succ, List.getElem_toArray, List.getElem_cons_succ, List.getElem_cons_zero])
    refine wpAnyH_take (i := 16) (v := ?_) rfl (by kernel_rfl) (by kernel_rfl) (by kernel_rfl) (fun _ _ _ h => h) (Or.inl ⟨by kernel_rfl, ?_⟩) (by assumption) ?_
    rotate_left
    · intro w hSw; (try dsimp only at hSw); go_simp <;> (try with_reducible rfl)
    (try simp only [Act.put, List.setIfInBounds_toArray, List.set_cons_zero, List.set_cons_succ, List.getElem_toArray, List.getElem_cons_succ, List.getElem_cons_zero])
    refine wpAnyH_take (i := 17) (v := ?_) rfl (by kernel_rfl) (by kernel_rfl) (by kernel_rfl) (fun _ _ _ h => h) (Or.inl ⟨by kernel_rfl, ?_⟩) (by assumption) ?_
    rotate_left
    · intro w hSw; (try dsimp only at hSw); go_simp <;> (try with_reducible rfl)
    (try simp only [Act.put, List.setIfInBounds_toArray, List.set_cons_zero, List.set_cons_succ, List.getElem_toArray, List.getElem_cons_succ, List.getElem_cons_zero])
    refine wpAnyH_take (i := 18) (v := ?_) rfl (by kernel_rfl) (by kernel_rfl) (by kernel_rfl) (fun _ _ _ h => h) (Or.inl ⟨by kernel_rfl, ?_⟩) (by assumption) ?_
    rotate_left
    · intro w hSw; (try dsimp only at hSw); go_simp <;> (try with_reducible rfl)
    (try simp only [Act.put, List.setIfInBounds_toArray, List.set_cons_zero, List.set_cons_succ, List.getElem_toArray, List.getElem_cons_succ, List.getElem_cons_zero])
    refine wpAnyH_take (i := 19) (v := ?_) rfl (by kernel_rfl) (by kernel_rfl) (by kernel_rfl) (fun _ _ _ h => h) (Or.inl ⟨by kernel_rfl, ?_⟩) (by assumption) ?_
    rotate_left
    · intro w hSw; (try dsimp only at hSw); go_simp <;> (try with_reducible rfl)
    (try simp only [Act.put, List.setIfInBounds_toArray, List.set_cons_zero, List.set_cons_succ, List.getElem_toArray, List.getElem_cons_succ, List.getElem_cons_zero])
    refine wpAnyH_take (i := 20) (v := ?_) rfl (by kernel_rfl) (by kernel_rfl) (by kernel_rfl) (fun _ _ _ h => h) (Or.inl ⟨by kernel_rfl, ?_⟩) (by assumption) ?_
    rotate_left
    · intro w hSw; (try dsimp only at hSw); go_simp <;> (try with_reducible rfl)
    (try simp only [Act.put, List.setIfInBounds_toArray, List.set_cons_zero, List.set_cons_succ, List.getElem_toArray, List.getElem_cons_succ, List.getElem_cons_zero])
    refine wpAnyH_take (i := 21) (v := ?_) rfl (by kernel_rfl) (by kernel_rfl) (by kernel_rfl) (fun _ _ _ h => h) (Or.inl ⟨by kernel_rfl, ?_⟩) (by assumption) ?_
    rotate_left
    · intro w hSw; (try dsimp only at hSw); go_simp <;> (try with_reducible rfl)
    (try simp only [Act.put, List.setIfInBounds_toArray, List.set_cons_zero, List.set_cons_succ, List.getElem_toArray, List.getElem_cons_succ, List.getElem_cons_zero])
    refine wpAnyH_take (i := 22) (v := ?_) rfl (by kernel_rfl) (by kernel_rfl) (by kernel_rfl) (fun _ _ _ h => h) (Or.inl ⟨by kernel_rfl, ?_⟩) (by assumption) ?_
    rotate_left
    · intro w hSw; (try dsimp only at hSw); go_simp <;> (try with_reducible rfl)
    (try simp only [Act.put, List.setIfInBounds_toArray, List.set_cons_zero, List.set_cons_succ, List.getElem_toArray, List.getElem_cons_succ, List.getElem_cons_zero])
    refine wpAnyH_take (i := 23) (v := ?_) rfl (by kernel_rfl) (by kernel_rfl) (by kernel_rfl) (fun _ _ _ h => h) (Or.inl ⟨by kernel_rfl, ?_⟩) (by assumption) ?_
    rotate_left
    · intro w hSw; (try dsimp only at hSw); go_simp <;> (try with_reducible rfl)
    (try simp only [Act.put, List.setIfInBounds_toArray, List.set_cons_zero, List.set_cons_succ, List.getElem_toArray, List.getElem_cons_succ, List.getElem_cons_zero])
    refine wpAnyH_take (i := 25) (v := ?_) rfl (by kernel_rfl) (by kernel_rfl) (by kernel_rfl) (fun _ _ _ h => h) (Or.inl ⟨by kernel_rfl, ?_⟩) (by assumption) ?_
    rotate_left
    · intro w hSw; (try dsimp only at hSw); go_simp <;> (try with_reducible rfl)
    (try simp only [Act.put, List.setIfInBounds_toArray, List.set_cons_zero, List.set_cons_succ, List.getElem_toArray, List.getElem_cons_succ, List.getElem_cons_zero])
    refine wpAnyH_ready (rs := [24]) (by kernel_rfl) (by simp) ?_
    refine AllReadyH.cons rfl (fun K hK => ?_) AllReadyH.nil
    go_simp
    go_at_call 17
    refine Calls.mono (may_one HXC.out.2.1) ?_
    rintro e w10 ⟨rfl, hb10⟩
    rw [HM.out]
    have HB10 := Lib.hid (HB9.out.trans (hb10.mono HB9.out.size))
    clear hb10
    refine hK.out _ _ ?_ (fun hHeld => ?_)
    · (try dsimp only); exact HKP.out _ HB10.out
    clear hK K
    (try simp only [Act.put, List.setIfInBounds_toArray, List.set_cons_zero, List.set_cons_succ, List.getElem_toArray, List.getElem_cons_succ, List.getElem_cons_zero])
    refine wpAnyH_ready (rs := [26]) (by kernel_rfl) (by simp) ?_
    refine AllReadyH.cons rfl (fun K hK => ?_) AllReadyH.nil
    go_simp
    go_at_call 18
    refine Calls.mono (rmay_one HXC.out.2.1) ?_
    rintro e w11 ⟨rfl, hb11⟩
    rw [HM.out]
    have HB11 := Lib.hid (HB10.out.trans (hb11.mono HB10.out.size))
    clear hb11
    refine hK.out _ _ ?_ (fun hHeld => ?_)
    · (try dsimp only); exact HKP.out _ HB11.out
    clear hK K
    (try simp only [Act.put, List.setIfInBounds_toArray, List.set_cons_zero, List.set_cons_succ, List.getElem_toArray, List.getElem_cons_succ, List.getElem_cons_zero])
    refine wpAnyH_take (i := 27) (v := ?_) rfl (by kernel_rfl) (by kernel_rfl) (by kernel_rfl) (fun _ _ _ h => h) (Or.inl ⟨by kernel_rfl, ?_⟩) (by assumption) ?_
    rotate_left
    · intro w hSw; (try dsimp only at hSw); go_simp <;> (try with_reducible rfl)
    (try simp only [Act.put, List.setIfInBounds_toArray, List.set_cons_zero, List.set_cons_succ, List.getElem_toArray, List.getElem_cons_succ, List.getElem_cons_zero])
    refine wpAnyH_take (i := 28) (v := ?_) rfl (by kernel_rfl) (by kernel_rfl) (by kernel_rfl) (fun _ _ _ h => h) (Or.inl ⟨by kernel_rfl, ?_⟩) (by assumption) ?_
    rotate_left
    · intro w hSw; (try dsimp only at hSw); go_simp <;> (try with_reducible rfl)
    (try simp only [Act.put, List.setIfInBounds_toArray, List.set_cons_zero, List.set_cons_succ, List.getElem_toArray, List.getElem_cons_succ, List.getElem_cons_zero])
    refine wpAnyH_done (by kernel_rfl) ?_ _
    have HF := Lib.hid (show Below w.heap.size w w11 from bbt (Below.drew_ HB7.out) HB11.out)
    have HX11 := Lib.hid (BoxC.below HX7.out.drew HB11.out)
    obtain ⟨x0, x1, x2, x3, x4⟩ := HX11.out
    have hxl := BoxC.lt HX11.out
    have HSS := Lib.hid ((HS7.out.drew.below HB11.out).cast (m := 64) (g := encF x) HEN.out (fun _ _ => rfl))
    go_wp2_with (first
      | (go_at_call 13; refine Calls.mono (decode_i (g := (x.g : Nat)) (s := (x.s : Nat)) ⟨by omega, by have := HXC.out.2.1.1; omega⟩ ⟨by omega, by have := HXC.out.2.1.2.1; omega⟩ HMM.out HXC.out.2.1.2.2.2.2.2.2.2.2.1 HSS.out) ?_; rintro e w12 ⟨⟨U, uc, rfl, hu12⟩, hb12⟩; have HXC12 := Lib.hid (HXC.out.below (bbt HF.out hb12)); have HX12 := Lib.hid (BoxC.below HX11.out hb12); have HB12 := Lib.hid (bbt HF.out hb12); obtain ⟨uA, uc', hu1, hu2, hu3, hu4⟩ := hu12; cases hu1; have HUC12 := Lib.hid (show HasC w12 (uD x U uc) from ⟨hu3, ⟨HXC.out.2.1.1, HXC.out.2.1.2.1, HXC.out.2.1.2.2.1, HXC.out.2.1.2.2.2.1, HXC.out.2.1.2.2.2.2.1, HXC.out.2.1.2.2.2.2.2.1, hu2, HXC.out.2.1.2.2.2.2.2.2.2.1, hu4, fun h0 => absurd HMM.out (by have h1 := hu3; intro h2; unfold mayP at h2; obtain ⟨ad0, e0, _⟩ := h1 0 (by omega); have e1 : U = none := h0; rw [e1] at e0; cases e0)⟩, HXC.out.2.2⟩); clear hu2 hu3 hu4 hb12 x0 x1 x2 x3 x4 hxl; have hb13 := below_new w12 (objD (uD x U uc)); have hb14 := below_new (w12.alloc (objD (uD x U uc))) (objD (uD x U uc)); have hb15 := below_new ((w12.alloc (objD (uD x U uc))).alloc (objD (uD x U uc))) (objD x); obtain ⟨u0, u1, u2, u3, u4⟩ := BoxD.new_ w12 (uD x U uc); have hul := BoxC.lt (BoxD.new_ w12 (uD x U uc)); have HX14 := Lib.hid (BoxC.below (BoxC.below HX12.out hb13) hb14); obtain ⟨x0, x1, x2, x3, x4⟩ := HX14.out; have hxl := BoxC.lt HX14.out; have HB15 := Lib.hid (bbt (bbt (bbt HB12.out hb13) hb14) hb15); have HU15 := Lib.hid (((HUC12.out.below hb13).below hb14).below hb15); have HXC15 := Lib.hid (((HXC12.out.below hb13).below hb14).below hb15); have HP15 := Lib.hid (BoxC.below (BoxD.new_ (w12.alloc (objD (uD x U uc))) (uD x U uc)) hb15); have HQ15 := Lib.hid (BoxD.new_ ((w12.alloc (objD (uD x U uc))).alloc (objD (uD x U uc))) x); clear hb13 hb14 hb15)
      | (go_at_call 16; refine Calls.mono (alike_one (D := uD x U uc) (E := x) HU15.out HXC15.out (by have h := HP15.out; simpa using h) (by have h := HQ15.out; simpa using h) ⟨rfl, rfl, rfl, rfl, rfl, fun _ _ => rfl⟩) ?_; rintro e w16 ⟨rfl, hb16⟩))
    go_ret
    exact ⟨rfl, bbt HB15.out hb16⟩
theorem codes_any (x : CellD) (A : Option Addr) (n c : Nat) (f : Nat → Nat) (w : World) (hr : Rd .u8 w x.A x.n x.f) (hx : x.good) (hv : Byt w (.slice A n c) n f) (hn : n ≤ 9223372036854775807) :
    Calls Try.prog 3 #[x.val, .slice A n c] w fun e w' => CodesPost w w' e := by
  by_cases h : 1000 < x.n ∨ 1000 < n
  · exact codes_out x A n c w hx hn h
  · by_cases hm : mayP x.p x.q x.n
    · exact codes_yes x A n c f w ⟨hr, hx, by omega⟩ hv (by omega) hm
    · exact codes_no x A n c f w ⟨hr, hx, by omega⟩ hv (by omega) hm
end Go.Proofs.Ytahcgihdgpdiiaa
