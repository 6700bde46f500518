/- Contract: the document's Encode; its bytes lie in a new block. -/
import Derived.Test.YteeomidlnijfbaaPKz
namespace Go.Proofs.Yteeomidlnijfbaa
open Go.RowKit
set_option linter.unusedSimpArgs false
set_option linter.unusedVariables false

/-- A value's block is new. -/
def NewB (w : World) (v : Value) : Prop := ∀ k, v.ownBlock = some k → w.heap.size ≤ k
set_option maxRecDepth 100000 in
set_option maxHeartbeats 2000000 in
theorem rsealN (A : Option Addr) (n c : Nat) (f : Nat → Nat) (w : World) (hr : Rd .u8 w A n f) (hf : ∀ j, j < n → f j < 256) (hn : n ≤ 1000000) (hA : A = none → n = 0 ∧ c = 0) :
    Calls Try.prog 83 #[.slice A n c] w fun e w' => ∃ v, e = .returned v ∧ Byt w' v (4 + n) (sealF (crcN f n) f) ∧ Below w.heap.size w w' ∧ NewB w v := by
  have HR := Lib.hid hr
  have HF := Lib.hid hf
  have HA := Lib.hid hA
  clear hr hf hA
  go_enter Try.func83, Try.ntmps83
  have hSl := crcN_lt (f := f) (n := n) HF.out
  have hsum := rsum_any A n c f w HR.out HF.out (by omega)
  generalize hS : crcN f n = S at *
  have HS := Lib.hid hS
  have HSM := Lib.hid hsum
  clear hS hsum
  have hown := own_seal8 w S f hSl
  have HB := Lib.hid (below_new w (.cells #[.int .u8 ((S : Int) % 256), .int .u8 ((S : Int) / 256 % 256), .int .u8 ((S : Int) / 65536 % 256), .int .u8 ((S : Int) / 16777216)] 5))
  have hrd := HR.out.below HB.out
  go_wp2_with (first | (go_at_call 89; refine HSM.out.mono ?_; rintro e w' ⟨rfl, rfl⟩) | (at_builtin; refine wpList_app rfl (.tmp 20) (.tmp 21) 35 rfl .u8 5 Try.underlying35 1 u8_info (by omega) w.heap.size _ 4 (sealF S f) rfl hown A n c f rfl hrd HA.out (by omega) (by simp) ?_; intro v2 w5 hown2 hb2 hsz2; have HO2 := Lib.hid hown2; have HB2 := Lib.hid (HB.out.trans hb2); clear hown hrd hown2 hb2 hsz2))
  go_ret
  refine ⟨v2, rfl, ?_, HB2.out, fun k hk => (World.ownsRow.lt HO2.out k hk).1⟩
  exact own_byt (HO2.out.congr fun j hj => by unfold appF sealF; by_cases h4 : j < 4 <;> simp [h4]) (sealF_lt HF.out)
set_option maxRecDepth 20000 in
set_option maxHeartbeats 2000000 in
theorem writeN (g s p q : Nat) (ad : Addr) (n c : Nat) (f : Nat → Nat) (w : World) (hg : g < 4294967296) (hs : s < 4294967296) (hp : p < 256) (hq : q < 256) (hn : n ≤ 49) (hr : Rd .u8 w (some ad) n f) (hf : ∀ j, j < n → f j < 256) :
    Calls Try.prog 70 #[cellV g s (p : Nat) (q : Nat) (some ad) n c] w fun e w' => (∃ v, e = .returned v ∧ Byt w' v 64 (sectF g s p q n f) ∧ NewB w v) ∧ Below w.heap.size w w' := by
  have HF := Lib.hid hf
  have HR := Lib.hid hr
  have HBX := Lib.hid (BoxC.new w g s (p : Nat) (q : Nat) (some ad) n c)
  have hw1 : Below w.heap.size w (w.alloc (.cells #[.int .u32 (g : Nat), .int .u32 (s : Nat), .int .i64 (p : Nat), .int .i64 (q : Nat), .slice (some ad) n c] 97)).drew := Below.drew_ (below_new _ _)
  have HKP : Hid (∀ u, Below (w.alloc (.cells #[.int .u32 (g : Nat), .int .u32 (s : Nat), .int .i64 (p : Nat), .int .i64 (q : Nat), .slice (some ad) n c] 97)).drew.heap.size (w.alloc (.cells #[.int .u32 (g : Nat), .int .u32 (s : Nat), .int .i64 (p : Nat), .int .i64 (q : Nat), .slice (some ad) n c] 97)).drew u → u.cell? ⟨w.heap.size, 0, none⟩ = some (.int .u32 (g : Nat)) ∧ u.cell? ⟨w.heap.size, 1, none⟩ = some (.int .u32 (s : Nat)) ∧ u.cell? ⟨w.heap.size, 2, none⟩ = some (.int .i64 (p : Nat)) ∧ u.cell? ⟨w.heap.size, 3, none⟩ = some (.int .i64 (q : Nat)) ∧ u.cell? ⟨w.heap.size, 4, none⟩ = some (.slice (some ad) n c)) := fun u hu => HBX.out.drew.below hu
  have HW1 := Lib.hid hw1
  have hwp : IntKind.u8.wrap (p : Int) = p := by rw [conv8]; omega
  have hwq : IntKind.u8.wrap (q : Int) = q := by rw [conv8]; omega
  have hwn : IntKind.u8.wrap (n : Int) = n := by rw [conv8]; omega
  clear hr hf hw1
  have tok1 : True := trivial
  go_enter Try.func70, Try.ntmps70
  go_wp2
  obtain ⟨w1, hw1e⟩ : ∃ w1, (w.alloc (.cells #[.int .u32 (g : Nat), .int .u32 (s : Nat), .int .i64 (p : Nat), .int .i64 (q : Nat), .slice (some ad) n c] 97)) = w1 := ⟨_, rfl⟩
  rw [hw1e] at HKP HW1 ⊢
  clear hw1e HBX
  have HB1 := Lib.hid (Below.refl w1.drew.heap.size w1.drew)
  refine wp_region_held_drew (S := (fun w' => w'.cell? ⟨w.heap.size, 0, none⟩ = some (.int .u32 (g : Nat)) ∧ w'.cell? ⟨w.heap.size, 1, none⟩ = some (.int .u32 (s : Nat)) ∧ w'.cell? ⟨w.heap.size, 2, none⟩ = some (.int .i64 (p : Nat)) ∧ w'.cell? ⟨w.heap.size, 3, none⟩ = some (.int .i64 (q : Nat)) ∧ w'.cell? ⟨w.heap.size, 4, none⟩ = some (.slice (some ad) n c))) (by kernel_rfl) ?_ (fun hHeld => ?_)
  · exact HKP.out _ HB1.out
  refine wpAnyH_take (i := 0) (v := ?_) rfl (by kernel_rfl) (by kernel_rfl) (by kernel_rfl) (fun _ _ _ h => h) (Or.inl ⟨by kernel_rfl, ?_⟩) (by assumption) ?_
  rotate_left
  · intro w hSw; (try dsimp only at hSw); go_simp <;> (try with_reducible rfl)
  (try simp only [Act.put, List.setIfInBounds_toArray, List.set_cons_zero, List.set_cons_succ, List.getElem_toArray, List.getElem_cons_succ, List.getElem_cons_zero])
  refine wpAnyH_take (i := 1) (v := ?_) rfl (by kernel_rfl) (by kernel_rfl) (by kernel_rfl) (fun _ _ _ h => h) (Or.inl ⟨by kernel_rfl, ?_⟩) (by assumption) ?_
  rotate_left
  · intro w hSw; (try dsimp only at hSw); go_simp <;> (try with_reducible rfl)
  (try simp only [Act.put, List.setIfInBounds_toArray, List.set_cons_zero, List.set_cons_succ, List.getElem_toArray, List.getElem_cons_succ, List.getElem_cons_zero])
  refine wpAnyH_take (i := 3) (v := ?_) rfl (by kernel_rfl) (by kernel_rfl) (by kernel_rfl) (fun _ _ _ h => h) (Or.inl ⟨by kernel_rfl, ?_⟩) (by assumption) ?_
  rotate_left
  · intro w hSw; (try dsimp only at hSw); go_simp <;> (try with_reducible rfl)
  (try simp only [Act.put, List.setIfInBounds_toArray, List.set_cons_zero, List.set_cons_succ, List.getElem_toArray, List.getElem_cons_succ, List.getElem_cons_zero])
  refine wpAnyH_take (i := 4) (v := ?_) rfl (by kernel_rfl) (by kernel_rfl) (by kernel_rfl) (fun _ _ _ h => h) (Or.inl ⟨by kernel_rfl, ?_⟩) (by assumption) ?_
  rotate_left
  · intro w hSw; (try dsimp only at hSw); go_simp <;> (try with_reducible rfl)
  (try simp only [Act.put, List.setIfInBounds_toArray, List.set_cons_zero, List.set_cons_succ, List.getElem_toArray, List.getElem_cons_succ, List.getElem_cons_zero])
  refine wpAnyH_take (i := 7) (v := ?_) rfl (by kernel_rfl) (by kernel_rfl) (by kernel_rfl) (fun _ _ _ h => h) (Or.inl ⟨by kernel_rfl, ?_⟩) (by assumption) ?_
  rotate_left
  · intro w hSw; (try dsimp only at hSw); go_simp <;> (try with_reducible rfl)
  (try simp only [Act.put, List.setIfInBounds_toArray, List.set_cons_zero, List.set_cons_succ, List.getElem_toArray, List.getElem_cons_succ, List.getElem_cons_zero])
  refine wpAnyH_take (i := 8) (v := ?_) rfl (by kernel_rfl) (by kernel_rfl) (by kernel_rfl) (fun _ _ _ h => h) (Or.inl ⟨by kernel_rfl, ?_⟩) (by assumption) ?_
  rotate_left
  · intro w hSw; (try dsimp only at hSw); go_simp <;> (try with_reducible rfl)
  (try simp only [Act.put, List.setIfInBounds_toArray, List.set_cons_zero, List.set_cons_succ, List.getElem_toArray, List.getElem_cons_succ, List.getElem_cons_zero])
  refine wpAnyH_take (i := 9) (v := ?_) rfl (by kernel_rfl) (by kernel_rfl) (by kernel_rfl) (fun _ _ _ h => h) (Or.inl ⟨by kernel_rfl, ?_⟩) (by assumption) ?_
  rotate_left
  · intro w hSw; (try dsimp only at hSw); go_simp <;> (try with_reducible rfl)
  (try simp only [Act.put, List.setIfInBounds_toArray, List.set_cons_zero, List.set_cons_succ, List.getElem_toArray, List.getElem_cons_succ, List.getElem_cons_zero])
  refine wpAnyH_take (i := 10) (v := ?_) rfl (by kernel_rfl) (by kernel_rfl) (by kernel_rfl) (fun _ _ _ h => h) (Or.inl ⟨by kernel_rfl, ?_⟩) (by assumption) ?_
  rotate_left
  · intro w hSw; (try dsimp only at hSw); go_simp <;> (try with_reducible rfl)
  (try simp only [Act.put, List.setIfInBounds_toArray, List.set_cons_zero, List.set_cons_succ, List.getElem_toArray, List.getElem_cons_succ, List.getElem_cons_zero])
  refine wpAnyH_take (i := 11) (v := ?_) rfl (by kernel_rfl) (by kernel_rfl) (by kernel_rfl) (fun _ _ _ h => h) (Or.inl ⟨by kernel_rfl, ?_⟩) (by assumption) ?_
  rotate_left
  · intro w hSw; (try dsimp only at hSw); go_simp <;> (try with_reducible rfl)
  (try simp only [Act.put, List.setIfInBounds_toArray, List.set_cons_zero, List.set_cons_succ, List.getElem_toArray, List.getElem_cons_succ, List.getElem_cons_zero])
  refine wpAnyH_take (i := 12) (v := ?_) rfl (by kernel_rfl) (by kernel_rfl) (by kernel_rfl) (fun _ _ _ h => h) (Or.inl ⟨by kernel_rfl, ?_⟩) (by assumption) ?_
  rotate_left
  · intro w hSw; (try dsimp only at hSw); go_simp <;> (try with_reducible rfl)
  (try simp only [Act.put, List.setIfInBounds_toArray, List.set_cons_zero, List.set_cons_succ, List.getElem_toArray, List.getElem_cons_succ, List.getElem_cons_zero])
  refine wpAnyH_take (i := 13) (v := ?_) rfl (by kernel_rfl) (by kernel_rfl) (by kernel_rfl) (fun _ _ _ h => h) (Or.inl ⟨by kernel_rfl, ?_⟩) (by assumption) ?_
  rotate_left
  · intro w hSw; (try dsimp only at hSw); go_simp <;> (try with_reducible rfl)
  (try simp only [Act.put, List.setIfInBounds_toArray, List.set_cons_zero, List.set_cons_succ, List.getElem_toArray, List.getElem_cons_succ, List.getElem_cons_zero])
  refine wpAnyH_take (i := 14) (v := ?_) rfl (by kernel_rfl) (by kernel_rfl) (by kernel_rfl) (fun _ _ _ h => h) (Or.inl ⟨by kernel_rfl, ?_⟩) (by assumption) ?_
  rotate_left
  · intro w hSw; (try dsimp only at hSw); go_simp <;> (try with_reducible rfl)
  (try simp only [Act.put, List.setIfInBounds_toArray, List.set_cons_zero, List.set_cons_succ, List.getElem_toArray, List.getElem_cons_succ, List.getElem_cons_zero])
  refine wpAnyH_take (i := 15) (v := ?_) rfl (by kernel_rfl) (by kernel_rfl) (by kernel_rfl) (fun _ _ _ h => h) (Or.inl ⟨by kernel_rfl, ?_⟩) (by assumption) ?_
  rotate_left
  · intro w hSw; (try dsimp only at hSw); go_simp <;> (try with_reducible rfl)
  (try simp only [Act.put, List.setIfInBounds_toArray, List.set_cons_zero, List.set_cons_succ, List.getElem_toArray, List.getElem_cons_succ, List.getElem_cons_zero])
  refine wpAnyH_take (i := 16) (v := ?_) rfl (by kernel_rfl) (by kernel_rfl) (by kernel_rfl) (fun _ _ _ h => h) (Or.inl ⟨by kernel_rfl, ?_⟩) (by assumption) ?_
  rotate_left
  · intro w hSw; (try dsimp only at hSw); go_simp <;> (try with_reducible rfl)
  (try simp only [Act.put, List.setIfInBounds_toArray, List.set_cons_zero, List.set_cons_succ, List.getElem_toArray, List.getElem_cons_succ, List.getElem_cons_zero])
  refine wpAnyH_take (i := 19) (v := ?_) rfl (by kernel_rfl) (by kernel_rfl) (by kernel_rfl) (fun _ _ _ h => h) (Or.inl ⟨by kernel_rfl, ?_⟩) (by assumption) ?_
  rotate_left
  · intro w hSw; (try dsimp only at hSw); go_simp <;> (try with_reducible rfl)
  (try simp only [Act.put, List.setIfInBounds_toArray, List.set_cons_zero, List.set_cons_succ, List.getElem_toArray, List.getElem_cons_succ, List.getElem_cons_zero])
  refine wpAnyH_take (i := 20) (v := ?_) rfl (by kernel_rfl) (by kernel_rfl) (by kernel_rfl) (fun _ _ _ h => h) (Or.inl ⟨by kernel_rfl, ?_⟩) (by assumption) ?_
  rotate_left
  · intro w hSw; (try dsimp only at hSw); go_simp <;> (try with_reducible rfl)
  (try simp only [Act.put, List.setIfInBounds_toArray, List.set_cons_zero, List.set_cons_succ, List.getElem_toArray, List.getElem_cons_succ, List.getElem_cons_zero])
  (try simp only [Act.put, List.setIfInBounds_toArray, List.set_cons_zero, List.set_cons_succ, List.getElem_toArray, List.getElem_cons_succ, List.getElem_cons_zero])
  refine wpAnyH_ready (rs := [2, 17]) (by kernel_rfl) (by simp) ?_
  refine (AllReadyH.cons rfl (fun K hK => ?_) (AllReadyH.cons rfl (fun K hK => ?_) AllReadyH.nil))
  · go_simp
    go_at_call 82
    refine Calls.mono (word_any g _ hg) ?_
    rintro e w2 ⟨⟨v2, rfl, ho2⟩, hb2⟩
    obtain ⟨g2, c2, rfl, hg2, hc2⟩ := ho2.form4
    have hl2 := (World.ownsRow.lt ho2 g2 rfl).2
    have HB_1 := Lib.hid (show Below w1.drew.heap.size w1.drew w2 from HB1.out.trans (hb2.mono HB1.out.size))
    have HO2_1 := Lib.hid (Own.mono ho2 HB1.out.size)
    refine hK.out _ _ ?_ (fun hHeld => ?_)
    · (try dsimp only); exact HKP.out _ HB_1.out
    clear hK K
    (try simp only [Act.put, List.setIfInBounds_toArray, List.set_cons_zero, List.set_cons_succ, List.getElem_toArray, List.getElem_cons_succ, List.getElem_cons_zero])
    refine wpAnyH_ready (rs := [5, 17]) (by kernel_rfl) (by simp) ?_
    refine (AllReadyH.cons rfl (fun K hK => ?_) (AllReadyH.cons rfl (fun K hK => ?_) AllReadyH.nil))
    · go_simp
      go_at_call 82
      refine Calls.mono (word_any s _ hs) ?_
      rintro e w3 ⟨⟨v3, rfl, ho3⟩, hb3⟩
      obtain ⟨g3, c3, rfl, hg3, hc3⟩ := ho3.form4
      have HB_2 := Lib.hid (show Below w1.drew.heap.size w1.drew w3 from HB_1.out.trans (hb3.mono HB_1.out.size))
      have HO2_2 := Lib.hid (Own.below HO2_1.out hb3)
      have HO3_2 := Lib.hid ho3
      have hl3 : g2 < w3.heap.size := (World.ownsRow.lt HO2_2.out g2 rfl).2
      refine hK.out _ _ ?_ (fun hHeld => ?_)
      · (try dsimp only); exact HKP.out _ HB_2.out
      clear hK K
      (try simp only [Act.put, List.setIfInBounds_toArray, List.set_cons_zero, List.set_cons_succ, List.getElem_toArray, List.getElem_cons_succ, List.getElem_cons_zero])
      refine wpAnyH_ready (rs := [6, 17]) (by kernel_rfl) (by simp) ?_
      refine (AllReadyH.cons rfl (fun K hK => ?_) (AllReadyH.cons rfl (fun K hK => ?_) AllReadyH.nil))
      · refine step_app_at (by rfl) _ _ 35 (by rfl) .u8 5 Try.underlying35 1 u8_info (by omega) w1.drew.heap.size (.slice (some ⟨g2, 0, none⟩) 4 c2) 4 (wordF g) (by rfl) HO2_2.out ⟨g3, 0, none⟩ 4 c3 (wordF s) (by rfl) HO3_2.out.rd_ (by omega) HB_2.out.size ?_
        intro v4 w4 ho4 hgr4 _
        obtain ⟨g4, c4, rfl, hg4, hc4⟩ := ho4.form8
        have HB_3 := Lib.hid (show Below w1.drew.heap.size w1.drew w4 from HB_2.out.trans ((Below.refl _ _).grown hgr4 HB_2.out.size fun k hk => (World.ownsRow.lt HO2_2.out k hk).1))
        have HO4_3 := Lib.hid ho4
        refine hK.out _ _ ?_ (fun hHeld => ?_)
        · (try dsimp only); exact HKP.out _ HB_3.out
        clear hK K
        (try simp only [Act.put, List.setIfInBounds_toArray, List.set_cons_zero, List.set_cons_succ, List.getElem_toArray, List.getElem_cons_succ, List.getElem_cons_zero])
        refine wpAnyH_ready (rs := [17]) (by kernel_rfl) (by simp) ?_
        refine (AllReadyH.cons rfl (fun K hK => ?_) AllReadyH.nil)
        go_simp
        have hnb := below_new (w4) (.cells #[.int .u8 (p : Nat), .int .u8 (q : Nat), .int .u8 (n : Nat)] 5)
        have HB_4 := Lib.hid (show Below w1.drew.heap.size w1.drew ((w4).alloc (.cells #[.int .u8 (p : Nat), .int .u8 (q : Nat), .int .u8 (n : Nat)] 5)) from HB_3.out.trans (hnb.mono HB_3.out.size))
        have HT_4 := Lib.hid (rd_three (w4) p q n)
        have O2_4 := Lib.hid (Own.alloc HO2_2.out (.cells #[.int .u8 (p : Nat), .int .u8 (q : Nat), .int .u8 (n : Nat)] 5))
        have O3_4 := Lib.hid (Own.alloc HO3_2.out (.cells #[.int .u8 (p : Nat), .int .u8 (q : Nat), .int .u8 (n : Nat)] 5))
        have O4_4 := Lib.hid (Own.alloc HO4_3.out (.cells #[.int .u8 (p : Nat), .int .u8 (q : Nat), .int .u8 (n : Nat)] 5))
        refine hK.out _ _ ?_ (fun hHeld => ?_)
        · (try dsimp only); exact HKP.out _ HB_4.out
        clear hK K
        (try simp only [Act.put, List.setIfInBounds_toArray, List.set_cons_zero, List.set_cons_succ, List.getElem_toArray, List.getElem_cons_succ, List.getElem_cons_zero])
        refine wpAnyH_ready (rs := [18]) (by kernel_rfl) (by simp) ?_
        refine (AllReadyH.cons rfl (fun K hK => ?_) AllReadyH.nil)
        refine step_app (by rfl) _ _ 35 (by rfl) .u8 5 Try.underlying35 1 u8_info (by omega) w1.drew.heap.size (.slice (some ⟨g4, 0, none⟩) (4 + 4) c4) (4 + 4) (appF (wordF g) 4 (wordF s)) (by rfl) O4_4.out (some ⟨(w4).heap.size, 0, none⟩) 3 3 (three p q n) (by rfl) HT_4.out (fun h => by cases h) (by omega) HB_4.out.size ?_
        intro v5 w5 ho5 hb5 hs5
        have HB_5 := Lib.hid (show Below w1.drew.heap.size w1.drew w5 from HB_4.out.trans hb5)
        have HO5_5 := Lib.hid ho5
        refine hK.out _ _ ?_ (fun hHeld => ?_)
        · (try dsimp only); exact HKP.out _ HB_5.out
        clear hK K
        (try simp only [Act.put, List.setIfInBounds_toArray, List.set_cons_zero, List.set_cons_succ, List.getElem_toArray, List.getElem_cons_succ, List.getElem_cons_zero])
        refine wpAnyH_ready (rs := [21]) (by kernel_rfl) (by simp) ?_
        refine (AllReadyH.cons rfl (fun K hK => ?_) AllReadyH.nil)
        refine step_app (by rfl) _ _ 35 (by rfl) .u8 5 Try.underlying35 1 u8_info (by omega) w1.drew.heap.size v5 (4 + 4 + 3) (appF (appF (wordF g) 4 (wordF s)) (4 + 4) (three p q n)) (by rfl) HO5_5.out (some ad) n c f (by rfl) (HR.out.below (bbt HW1.out HB_5.out)) (fun h => by cases h) (by omega) HB_5.out.size ?_
        intro v6 w6 ho6 hb6 hs6
        have HB_6 := Lib.hid (show Below w1.drew.heap.size w1.drew w6 from HB_5.out.trans hb6)
        refine hK.out _ _ ?_ (fun hHeld => ?_)
        · (try dsimp only); exact HKP.out _ HB_6.out
        clear hK K
        (try simp only [Act.put, List.setIfInBounds_toArray, List.set_cons_zero, List.set_cons_succ, List.getElem_toArray, List.getElem_cons_succ, List.getElem_cons_zero])
        (try simp only [Act.put, List.setIfInBounds_toArray, List.set_cons_zero, List.set_cons_succ, List.getElem_toArray, List.getElem_cons_succ, List.getElem_cons_zero])
        refine wpAnyH_take (i := 22) (v := ?_) rfl (by kernel_rfl) (by kernel_rfl) (by kernel_rfl) (fun _ _ _ h => h) (Or.inl ⟨by kernel_rfl, ?_⟩) (by assumption) ?_
        rotate_left
        · intro w hSw; (try dsimp only at hSw); go_simp <;> (try with_reducible rfl)
        (try simp only [Act.put, List.setIfInBounds_toArray, List.set_cons_zero, List.set_cons_succ, List.getElem_toArray, List.getElem_cons_succ, List.getElem_cons_zero])
        refine wpAnyH_done (by kernel_rfl) ?_ _
        have ho7 : Own .u8 5 w6 w1.drew.heap.size v6 (11 + n) (bodyF g s p q n f) := by
          have e : 4 + 4 + 3 + n = 11 + n := by omega
          rw [e] at ho6
          exact ho6.congr (body_app g s p q n f)
        have HB6 := Lib.hid (bbt HW1.out HB_6.out)
        have hbs : w1.drew.heap.size ≤ w6.heap.size := HB_6.out.size
        have HBB := Lib.hid (HB_6.out)
        have hws : w.heap.size ≤ w1.drew.heap.size := HW1.out.size
        clear hb6 hs6 hwp hwq hwn
        go_wp2
        go_loopw [3] (fun v wr => ∃ k : Nat, 11 + n ≤ k ∧ k ≤ 60 ∧ Own .u8 5 wr w1.drew.heap.size v k (bodyF g s p q n f) ∧ Below w1.drew.heap.size w1.drew wr) (fun v _ => 60 - lenOf v)
        case atStart => exact ⟨11 + n, Nat.le_refl _, by omega, ho7, HBB.out⟩
        case round =>
          obtain ⟨k, hk1, hk2, hok, hbk⟩ := hrel
          obtain ⟨gk, ck, rfl, hgk, hck⟩ := hok.formP (by omega)
          have HOk := Lib.hid hok
          have HBk := Lib.hid hbk
          have hsz := hbk.size
          clear hok hbk ho6 ho7
          by_cases hlt : k < 60
          · have hown1 := HOk.out.alloc (.cells #[.int .u8 0] 5)
            have hrd1 : Rd .u8 (wr.alloc (.cells #[.int .u8 0] 5)) (some ⟨wr.heap.size, 0, none⟩) 1 (fun _ => 0) := (row_one wr 0).rd0 (Nat.le_refl _)
            go_wp2_with (at_builtin; refine wpList_app rfl _ _ 35 rfl .u8 5 Try.underlying35 1 u8_info (by omega) w1.drew.heap.size _ k (bodyF g s p q n f) rfl hown1 (some ⟨wr.heap.size, 0, none⟩) 1 1 (fun _ => 0) rfl hrd1 (fun h => by cases h) (by omega) (by rw [World.size_alloc]; omega) ?_; intro v9 w9 hown9 hb9 hs9)
            have hown10 : Own .u8 5 w9 w1.drew.heap.size v9 (k + 1) (bodyF g s p q n f) := hown9.congr (body_zero hk1)
            have HB9 := Lib.hid ((HBk.out.trans ((below_new wr (.cells #[.int .u8 0] 5)).mono hsz)).trans hb9)
            obtain ⟨g9, c9, rfl, _, _⟩ := hown10.formP (by omega)
            clear hown1 hrd1 hown9 hb9 hs9
            go_wp2
            go_roundw
            case rel => first | exact ⟨k + 1, by omega, by omega, hown10, HB9.out⟩ | exact ⟨_, _, _, _, _, _, _, ⟨k + 1, by omega, by omega, hown10, HB9.out⟩, rfl⟩
            case measure => simp [lenOf]; omega
          · obtain rfl : k = 60 := by omega
            go_wp2_with (go_at_call 83; refine Calls.mono (rsealN (some ⟨gk, 0, none⟩) 60 ck (bodyF g s p q n f) _ HOk.out.rd_ (bodyF_lt hp hq (by omega) HF.out) (by omega) (fun h => by cases h)) ?_; rintro e w10 ⟨v10, rfl, hv10, hb10, hn10⟩)
            go_ret
            exact ⟨⟨v10, rfl, hv10, fun k hk => Nat.le_trans (bbt HW1.out HBk.out).size (hn10 k hk)⟩, bbt (bbt HW1.out HBk.out) hb10⟩
      · go_simp
        have hnb := below_new (w3) (.cells #[.int .u8 (p : Nat), .int .u8 (q : Nat), .int .u8 (n : Nat)] 5)
        have HB_7 := Lib.hid (show Below w1.drew.heap.size w1.drew ((w3).alloc (.cells #[.int .u8 (p : Nat), .int .u8 (q : Nat), .int .u8 (n : Nat)] 5)) from HB_2.out.trans (hnb.mono HB_2.out.size))
        have HT_7 := Lib.hid (rd_three (w3) p q n)
        have O2_7 := Lib.hid (Own.alloc HO2_2.out (.cells #[.int .u8 (p : Nat), .int .u8 (q : Nat), .int .u8 (n : Nat)] 5))
        have O3_7 := Lib.hid (Own.alloc HO3_2.out (.cells #[.int .u8 (p : Nat), .int .u8 (q : Nat), .int .u8 (n : Nat)] 5))
        have hT_7 : (w3).heap.size ≠ g2 := by have := (World.ownsRow.lt HO2_2.out g2 rfl).2; omega
        refine hK.out _ _ ?_ (fun hHeld => ?_)
        · (try dsimp only); exact HKP.out _ HB_7.out
        clear hK K
        (try simp only [Act.put, List.setIfInBounds_toArray, List.set_cons_zero, List.set_cons_succ, List.getElem_toArray, List.getElem_cons_succ, List.getElem_cons_zero])
        refine wpAnyH_ready (rs := [6]) (by kernel_rfl) (by simp) ?_
        refine (AllReadyH.cons rfl (fun K hK => ?_) AllReadyH.nil)
        refine step_app_at (by rfl) _ _ 35 (by rfl) .u8 5 Try.underlying35 1 u8_info (by omega) w1.drew.heap.size (.slice (some ⟨g2, 0, none⟩) 4 c2) 4 (wordF g) (by rfl) O2_7.out ⟨g3, 0, none⟩ 4 c3 (wordF s) (by rfl) O3_7.out.rd_ (by omega) HB_7.out.size ?_
        intro v4 w4 ho4 hgr4 _
        obtain ⟨g4, c4, rfl, hg4, hc4⟩ := ho4.form8
        have HB_8 := Lib.hid (show Below w1.drew.heap.size w1.drew w4 from HB_7.out.trans ((Below.refl _ _).grown hgr4 HB_7.out.size fun k hk => (World.ownsRow.lt O2_7.out k hk).1))
        have HO4_8 := Lib.hid ho4
        have HT_8 := Lib.hid (Rd.wr (g := g2) HT_7.out (fun ad he => by cases he; exact hT_7) hgr4)
        refine hK.out _ _ ?_ (fun hHeld => ?_)
        · (try dsimp only); exact HKP.out _ HB_8.out
        clear hK K
        (try simp only [Act.put, List.setIfInBounds_toArray, List.set_cons_zero, List.set_cons_succ, List.getElem_toArray, List.getElem_cons_succ, List.getElem_cons_zero])
        refine wpAnyH_ready (rs := [18]) (by kernel_rfl) (by simp) ?_
        refine (AllReadyH.cons rfl (fun K hK => ?_) AllReadyH.nil)
        refine step_app (by rfl) _ _ 35 (by rfl) .u8 5 Try.underlying35 1 u8_info (by omega) w1.drew.heap.size (.slice (some ⟨g4, 0, none⟩) (4 + 4) c4) (4 + 4) (appF (wordF g) 4 (wordF s)) (by rfl) HO4_8.out (some ⟨(w3).heap.size, 0, none⟩) 3 3 (three p q n) (by rfl) HT_8.out (fun h => by cases h) (by omega) HB_8.out.size ?_
        intro v5 w5 ho5 hb5 hs5
        have HB_9 := Lib.hid (show Below w1.drew.heap.size w1.drew w5 from HB_8.out.trans hb5)
        have HO5_9 := Lib.hid ho5
        refine hK.out _ _ ?_ (fun hHeld => ?_)
        · (try dsimp only); exact HKP.out _ HB_9.out
        clear hK K
        (try simp only [Act.put, List.setIfInBounds_toArray, List.set_cons_zero, List.set_cons_succ, List.getElem_toArray, List.getElem_cons_succ, List.getElem_cons_zero])
        refine wpAnyH_ready (rs := [21]) (by kernel_rfl) (by simp) ?_
        refine (AllReadyH.cons rfl (fun K hK => ?_) AllReadyH.nil)
        refine step_app (by rfl) _ _ 35 (by rfl) .u8 5 Try.underlying35 1 u8_info (by omega) w1.drew.heap.size v5 (4 + 4 + 3) (appF (appF (wordF g) 4 (wordF s)) (4 + 4) (three p q n)) (by rfl) HO5_9.out (some ad) n c f (by rfl) (HR.out.below (bbt HW1.out HB_9.out)) (fun h => by cases h) (by omega) HB_9.out.size ?_
        intro v6 w6 ho6 hb6 hs6
        have HB_10 := Lib.hid (show Below w1.drew.heap.size w1.drew w6 from HB_9.out.trans hb6)
        refine hK.out _ _ ?_ (fun hHeld => ?_)
        · (try dsimp only); exact HKP.out _ HB_10.out
        clear hK K
        (try simp only [Act.put, List.setIfInBounds_toArray, List.set_cons_zero, List.set_cons_succ, List.getElem_toArray, List.getElem_cons_succ, List.getElem_cons_zero])
        (try simp only [Act.put, List.setIfInBounds_toArray, List.set_cons_zero, List.set_cons_succ, List.getElem_toArray, List.getElem_cons_succ, List.getElem_cons_zero])
        refine wpAnyH_take (i := 22) (v := ?_) rfl (by kernel_rfl) (by kernel_rfl) (by kernel_rfl) (fun _ _ _ h => h) (Or.inl ⟨by kernel_rfl, ?_⟩) (by assumption) ?_
        rotate_left
        · intro w hSw; (try dsimp only at hSw); go_simp <;> (try with_reducible rfl)
        (try simp only [Act.put, List.setIfInBounds_toArray, List.set_cons_zero, List.set_cons_succ, List.getElem_toArray, List.getElem_cons_succ, List.getElem_cons_zero])
        refine wpAnyH_done (by kernel_rfl) ?_ _
        have ho7 : Own .u8 5 w6 w1.drew.heap.size v6 (11 + n) (bodyF g s p q n f) := by
          have e : 4 + 4 + 3 + n = 11 + n := by omega
          rw [e] at ho6
          exact ho6.congr (body_app g s p q n f)
        have HB6 := Lib.hid (bbt HW1.out HB_10.out)
        have hbs : w1.drew.heap.size ≤ w6.heap.size := HB_10.out.size
        have HBB := Lib.hid (HB_10.out)
        have hws : w.heap.size ≤ w1.drew.heap.size := HW1.out.size
        clear hb6 hs6 hwp hwq hwn
        go_wp2
        go_loopw [3] (fun v wr => ∃ k : Nat, 11 + n ≤ k ∧ k ≤ 60 ∧ Own .u8 5 wr w1.drew.heap.size v k (bodyF g s p q n f) ∧ Below w1.drew.heap.size w1.drew wr) (fun v _ => 60 - lenOf v)
        case atStart => exact ⟨11 + n, Nat.le_refl _, by omega, ho7, HBB.out⟩
        case round =>
          obtain ⟨k, hk1, hk2, hok, hbk⟩ := hrel
          obtain ⟨gk, ck, rfl, hgk, hck⟩ := hok.formP (by omega)
          have HOk := Lib.hid hok
          have HBk := Lib.hid hbk
          have hsz := hbk.size
          clear hok hbk ho6 ho7
          by_cases hlt : k < 60
          · have hown1 := HOk.out.alloc (.cells #[.int .u8 0] 5)
            have hrd1 : Rd .u8 (wr.alloc (.cells #[.int .u8 0] 5)) (some ⟨wr.heap.size, 0, none⟩) 1 (fun _ => 0) := (row_one wr 0).rd0 (Nat.le_refl _)
            go_wp2_with (at_builtin; refine wpList_app rfl _ _ 35 rfl .u8 5 Try.underlying35 1 u8_info (by omega) w1.drew.heap.size _ k (bodyF g s p q n f) rfl hown1 (some ⟨wr.heap.size, 0, none⟩) 1 1 (fun _ => 0) rfl hrd1 (fun h => by cases h) (by omega) (by rw [World.size_alloc]; omega) ?_; intro v9 w9 hown9 hb9 hs9)
            have hown10 : Own .u8 5 w9 w1.drew.heap.size v9 (k + 1) (bodyF g s p q n f) := hown9.congr (body_zero hk1)
            have HB9 := Lib.hid ((HBk.out.trans ((below_new wr (.cells #[.int .u8 0] 5)).mono hsz)).trans hb9)
            obtain ⟨g9, c9, rfl, _, _⟩ := hown10.formP (by omega)
            clear hown1 hrd1 hown9 hb9 hs9
            go_wp2
            go_roundw
            case rel => first | exact ⟨k + 1, by omega, by omega, hown10, HB9.out⟩ | exact ⟨_, _, _, _, _, _, _, ⟨k + 1, by omega, by omega, hown10, HB9.out⟩, rfl⟩
            case measure => simp [lenOf]; omega
          · obtain rfl : k = 60 := by omega
            go_wp2_with (go_at_call 83; refine Calls.mono (rsealN (some ⟨gk, 0, none⟩) 60 ck (bodyF g s p q n f) _ HOk.out.rd_ (bodyF_lt hp hq (by omega) HF.out) (by omega) (fun h => by cases h)) ?_; rintro e w10 ⟨v10, rfl, hv10, hb10, hn10⟩)
            go_ret
            exact ⟨⟨v10, rfl, hv10, fun k hk => Nat.le_trans (bbt HW1.out HBk.out).size (hn10 k hk)⟩, bbt (bbt HW1.out HBk.out) hb10⟩
    · go_simp
      have hnb := below_new (w2) (.cells #[.int .u8 (p : Nat), .int .u8 (q : Nat), .int .u8 (n : Nat)] 5)
      have HB_11 := Lib.hid (show Below w1.drew.heap.size w1.drew ((w2).alloc (.cells #[.int .u8 (p : Nat), .int .u8 (q : Nat), .int .u8 (n : Nat)] 5)) from HB_1.out.trans (hnb.mono HB_1.out.size))
      have HT_11 := Lib.hid (rd_three (w2) p q n)
      have O2_11 := Lib.hid (Own.alloc HO2_1.out (.cells #[.int .u8 (p : Nat), .int .u8 (q : Nat), .int .u8 (n : Nat)] 5))
      have hT_11 : (w2).heap.size ≠ g2 := by have := (World.ownsRow.lt HO2_1.out g2 rfl).2; omega
      refine hK.out _ _ ?_ (fun hHeld => ?_)
      · (try dsimp only); exact HKP.out _ HB_11.out
      clear hK K
      (try simp only [Act.put, List.setIfInBounds_toArray, List.set_cons_zero, List.set_cons_succ, List.getElem_toArray, List.getElem_cons_succ, List.getElem_cons_zero])
      refine wpAnyH_ready (rs := [5]) (by kernel_rfl) (by simp) ?_
      refine (AllReadyH.cons rfl (fun K hK => ?_) AllReadyH.nil)
      go_simp
      go_at_call 82
      refine Calls.mono (word_any s _ hs) ?_
      rintro e w3 ⟨⟨v3, rfl, ho3⟩, hb3⟩
      obtain ⟨g3, c3, rfl, hg3, hc3⟩ := ho3.form4
      have HB_12 := Lib.hid (show Below w1.drew.heap.size w1.drew w3 from HB_11.out.trans (hb3.mono HB_11.out.size))
      have HO2_12 := Lib.hid (Own.below O2_11.out hb3)
      have HO3_12 := Lib.hid ho3
      have hl3 : g2 < w3.heap.size := (World.ownsRow.lt HO2_12.out g2 rfl).2
      have HT_12 := Lib.hid (HT_11.out.below hb3)
      refine hK.out _ _ ?_ (fun hHeld => ?_)
      · (try dsimp only); exact HKP.out _ HB_12.out
      clear hK K
      (try simp only [Act.put, List.setIfInBounds_toArray, List.set_cons_zero, List.set_cons_succ, List.getElem_toArray, List.getElem_cons_succ, List.getElem_cons_zero])
      refine wpAnyH_ready (rs := [6]) (by kernel_rfl) (by simp) ?_
      refine (AllReadyH.cons rfl (fun K hK => ?_) AllReadyH.nil)
      refine step_app_at (by rfl) _ _ 35 (by rfl) .u8 5 Try.underlying35 1 u8_info (by omega) w1.drew.heap.size (.slice (some ⟨g2, 0, none⟩) 4 c2) 4 (wordF g) (by rfl) HO2_12.out ⟨g3, 0, none⟩ 4 c3 (wordF s) (by rfl) HO3_12.out.rd_ (by omega) HB_12.out.size ?_
      intro v4 w4 ho4 hgr4 _
      obtain ⟨g4, c4, rfl, hg4, hc4⟩ := ho4.form8
      have HB_13 := Lib.hid (show Below w1.drew.heap.size w1.drew w4 from HB_12.out.trans ((Below.refl _ _).grown hgr4 HB_12.out.size fun k hk => (World.ownsRow.lt HO2_12.out k hk).1))
      have HO4_13 := Lib.hid ho4
      have HT_13 := Lib.hid (Rd.wr (g := g2) HT_12.out (fun ad he => by cases he; exact hT_11) hgr4)
      refine hK.out _ _ ?_ (fun hHeld => ?_)
      · (try dsimp only); exact HKP.out _ HB_13.out
      clear hK K
      (try simp only [Act.put, List.setIfInBounds_toArray, List.set_cons_zero, List.set_cons_succ, List.getElem_toArray, List.getElem_cons_succ, List.getElem_cons_zero])
      refine wpAnyH_ready (rs := [18]) (by kernel_rfl) (by simp) ?_
      refine (AllReadyH.cons rfl (fun K hK => ?_) AllReadyH.nil)
      refine step_app (by rfl) _ _ 35 (by rfl) .u8 5 Try.underlying35 1 u8_info (by omega) w1.drew.heap.size (.slice (some ⟨g4, 0, none⟩) (4 + 4) c4) (4 + 4) (appF (wordF g) 4 (wordF s)) (by rfl) HO4_13.out (some ⟨(w2).heap.size, 0, none⟩) 3 3 (three p q n) (by rfl) HT_13.out (fun h => by cases h) (by omega) HB_13.out.size ?_
      intro v5 w5 ho5 hb5 hs5
      have HB_14 := Lib.hid (show Below w1.drew.heap.size w1.drew w5 from HB_13.out.trans hb5)
      have HO5_14 := Lib.hid ho5
      refine hK.out _ _ ?_ (fun hHeld => ?_)
      · (try dsimp only); exact HKP.out _ HB_14.out
      clear hK K
      (try simp only [Act.put, List.setIfInBounds_toArray, List.set_cons_zero, List.set_cons_succ, List.getElem_toArray, List.getElem_cons_succ, List.getElem_cons_zero])
      refine wpAnyH_ready (rs := [21]) (by kernel_rfl) (by simp) ?_
      refine (AllReadyH.cons rfl (fun K hK => ?_) AllReadyH.nil)
      refine step_app (by rfl) _ _ 35 (by rfl) .u8 5 Try.underlying35 1 u8_info (by omega) w1.drew.heap.size v5 (4 + 4 + 3) (appF (appF (wordF g) 4 (wordF s)) (4 + 4) (three p q n)) (by rfl) HO5_14.out (some ad) n c f (by rfl) (HR.out.below (bbt HW1.out HB_14.out)) (fun h => by cases h) (by omega) HB_14.out.size ?_
      intro v6 w6 ho6 hb6 hs6
      have HB_15 := Lib.hid (show Below w1.drew.heap.size w1.drew w6 from HB_14.out.trans hb6)
      refine hK.out _ _ ?_ (fun hHeld => ?_)
      · (try dsimp only); exact HKP.out _ HB_15.out
      clear hK K
      (try simp only [Act.put, List.setIfInBounds_toArray, List.set_cons_zero, List.set_cons_succ, List.getElem_toArray, List.getElem_cons_succ, List.getElem_cons_zero])
      (try simp only [Act.put, List.setIfInBounds_toArray, List.set_cons_zero, List.set_cons_succ, List.getElem_toArray, List.getElem_cons_succ, List.getElem_cons_zero])
      refine wpAnyH_take (i := 22) (v := ?_) rfl (by kernel_rfl) (by kernel_rfl) (by kernel_rfl) (fun _ _ _ h => h) (Or.inl ⟨by kernel_rfl, ?_⟩) (by assumption) ?_
      rotate_left
      · intro w hSw; (try dsimp only at hSw); go_simp <;> (try with_reducible rfl)
      (try simp only [Act.put, List.setIfInBounds_toArray, List.set_cons_zero, List.set_cons_succ, List.getElem_toArray, List.getElem_cons_succ, List.getElem_cons_zero])
      refine wpAnyH_done (by kernel_rfl) ?_ _
      have ho7 : Own .u8 5 w6 w1.drew.heap.size v6 (11 + n) (bodyF g s p q n f) := by
        have e : 4 + 4 + 3 + n = 11 + n := by omega
        rw [e] at ho6
        exact ho6.congr (body_app g s p q n f)
      have HB6 := Lib.hid (bbt HW1.out HB_15.out)
      have hbs : w1.drew.heap.size ≤ w6.heap.size := HB_15.out.size
      have HBB := Lib.hid (HB_15.out)
      have hws : w.heap.size ≤ w1.drew.heap.size := HW1.out.size
      clear hb6 hs6 hwp hwq hwn
      go_wp2
      go_loopw [3] (fun v wr => ∃ k : Nat, 11 + n ≤ k ∧ k ≤ 60 ∧ Own .u8 5 wr w1.drew.heap.size v k (bodyF g s p q n f) ∧ Below w1.drew.heap.size w1.drew wr) (fun v _ => 60 - lenOf v)
      case atStart => exact ⟨11 + n, Nat.le_refl _, by omega, ho7, HBB.out⟩
      case round =>
        obtain ⟨k, hk1, hk2, hok, hbk⟩ := hrel
        obtain ⟨gk, ck, rfl, hgk, hck⟩ := hok.formP (by omega)
        have HOk := Lib.hid hok
        have HBk := Lib.hid hbk
        have hsz := hbk.size
        clear hok hbk ho6 ho7
        by_cases hlt : k < 60
        · have hown1 := HOk.out.alloc (.cells #[.int .u8 0] 5)
          have hrd1 : Rd .u8 (wr.alloc (.cells #[.int .u8 0] 5)) (some ⟨wr.heap.size, 0, none⟩) 1 (fun _ => 0) := (row_one wr 0).rd0 (Nat.le_refl _)
          go_wp2_with (at_builtin; refine wpList_app rfl _ _ 35 rfl .u8 5 Try.underlying35 1 u8_info (by omega) w1.drew.heap.size _ k (bodyF g s p q n f) rfl hown1 (some ⟨wr.heap.size, 0, none⟩) 1 1 (fun _ => 0) rfl hrd1 (fun h => by cases h) (by omega) (by rw [World.size_alloc]; omega) ?_; intro v9 w9 hown9 hb9 hs9)
          have hown10 : Own .u8 5 w9 w1.drew.heap.size v9 (k + 1) (bodyF g s p q n f) := hown9.congr (body_zero hk1)
          have HB9 := Lib.hid ((HBk.out.trans ((below_new wr (.cells #[.int .u8 0] 5)).mono hsz)).trans hb9)
          obtain ⟨g9, c9, rfl, _, _⟩ := hown10.formP (by omega)
          clear hown1 hrd1 hown9 hb9 hs9
          go_wp2
          go_roundw
          case rel => first | exact ⟨k + 1, by omega, by omega, hown10, HB9.out⟩ | exact ⟨_, _, _, _, _, _, _, ⟨k + 1, by omega, by omega, hown10, HB9.out⟩, rfl⟩
          case measure => simp [lenOf]; omega
        · obtain rfl : k = 60 := by omega
          go_wp2_with (go_at_call 83; refine Calls.mono (rsealN (some ⟨gk, 0, none⟩) 60 ck (bodyF g s p q n f) _ HOk.out.rd_ (bodyF_lt hp hq (by omega) HF.out) (by omega) (fun h => by cases h)) ?_; rintro e w10 ⟨v10, rfl, hv10, hb10, hn10⟩)
          go_ret
          exact ⟨⟨v10, rfl, hv10, fun k hk => Nat.le_trans (bbt HW1.out HBk.out).size (hn10 k hk)⟩, bbt (bbt HW1.out HBk.out) hb10⟩
  · go_simp
    have hnb := below_new (w1.drew) (.cells #[.int .u8 (p : Nat), .int .u8 (q : Nat), .int .u8 (n : Nat)] 5)
    have HB_16 := Lib.hid (show Below w1.drew.heap.size w1.drew ((w1.drew).alloc (.cells #[.int .u8 (p : Nat), .int .u8 (q : Nat), .int .u8 (n : Nat)] 5)) from HB1.out.trans (hnb.mono HB1.out.size))
    have HT_16 := Lib.hid (rd_three (w1.drew) p q n)
    refine hK.out _ _ ?_ (fun hHeld => ?_)
    · (try dsimp only); exact HKP.out _ HB_16.out
    clear hK K
    (try simp only [Act.put, List.setIfInBounds_toArray, List.set_cons_zero, List.set_cons_succ, List.getElem_toArray, List.getElem_cons_succ, List.getElem_cons_zero])
    refine wpAnyH_ready (rs := [2]) (by kernel_rfl) (by simp) ?_
    refine (AllReadyH.cons rfl (fun K hK => ?_) AllReadyH.nil)
    go_simp
    go_at_call 82
    refine Calls.mono (word_any g _ hg) ?_
    rintro e w2 ⟨⟨v2, rfl, ho2⟩, hb2⟩
    obtain ⟨g2, c2, rfl, hg2, hc2⟩ := ho2.form4
    have hl2 := (World.ownsRow.lt ho2 g2 rfl).2
    have HB_17 := Lib.hid (show Below w1.drew.heap.size w1.drew w2 from HB_16.out.trans (hb2.mono HB_16.out.size))
    have HO2_17 := Lib.hid (Own.mono ho2 HB_16.out.size)
    have HT_17 := Lib.hid (HT_16.out.below hb2)
    have hT_17 : (w1.drew).heap.size ≠ g2 := by have := hg2; simp at this; simp; omega
    refine hK.out _ _ ?_ (fun hHeld => ?_)
    · (try dsimp only); exact HKP.out _ HB_17.out
    clear hK K
    (try simp only [Act.put, List.setIfInBounds_toArray, List.set_cons_zero, List.set_cons_succ, List.getElem_toArray, List.getElem_cons_succ, List.getElem_cons_zero])
    refine wpAnyH_ready (rs := [5]) (by kernel_rfl) (by simp) ?_
    refine (AllReadyH.cons rfl (fun K hK => ?_) AllReadyH.nil)
    go_simp
    go_at_call 82
    refine Calls.mono (word_any s _ hs) ?_
    rintro e w3 ⟨⟨v3, rfl, ho3⟩, hb3⟩
    obtain ⟨g3, c3, rfl, hg3, hc3⟩ := ho3.form4
    have HB_18 := Lib.hid (show Below w1.drew.heap.size w1.drew w3 from HB_17.out.trans (hb3.mono HB_17.out.size))
    have HO2_18 := Lib.hid (Own.below HO2_17.out hb3)
    have HO3_18 := Lib.hid ho3
    have hl3 : g2 < w3.heap.size := (World.ownsRow.lt HO2_18.out g2 rfl).2
    have HT_18 := Lib.hid (HT_17.out.below hb3)
    refine hK.out _ _ ?_ (fun hHeld => ?_)
    · (try dsimp only); exact HKP.out _ HB_18.out
    clear hK K
    (try simp only [Act.put, List.setIfInBounds_toArray, List.set_cons_zero, List.set_cons_succ, List.getElem_toArray, List.getElem_cons_succ, List.getElem_cons_zero])
    refine wpAnyH_ready (rs := [6]) (by kernel_rfl) (by simp) ?_
    refine (AllReadyH.cons rfl (fun K hK => ?_) AllReadyH.nil)
    refine step_app_at (by rfl) _ _ 35 (by rfl) .u8 5 Try.underlying35 1 u8_info (by omega) w1.drew.heap.size (.slice (some ⟨g2, 0, none⟩) 4 c2) 4 (wordF g) (by rfl) HO2_18.out ⟨g3, 0, none⟩ 4 c3 (wordF s) (by rfl) HO3_18.out.rd_ (by omega) HB_18.out.size ?_
    intro v4 w4 ho4 hgr4 _
    obtain ⟨g4, c4, rfl, hg4, hc4⟩ := ho4.form8
    have HB_19 := Lib.hid (show Below w1.drew.heap.size w1.drew w4 from HB_18.out.trans ((Below.refl _ _).grown hgr4 HB_18.out.size fun k hk => (World.ownsRow.lt HO2_18.out k hk).1))
    have HO4_19 := Lib.hid ho4
    have HT_19 := Lib.hid (Rd.wr (g := g2) HT_18.out (fun ad he => by cases he; exact hT_17) hgr4)
    refine hK.out _ _ ?_ (fun hHeld => ?_)
    · (try dsimp only); exact HKP.out _ HB_19.out
    clear hK K
    (try simp only [Act.put, List.setIfInBounds_toArray, List.set_cons_zero, List.set_cons_succ, List.getElem_toArray, List.getElem_cons_succ, List.getElem_cons_zero])
    refine wpAnyH_ready (rs := [18]) (by kernel_rfl) (by simp) ?_
    refine (AllReadyH.cons rfl (fun K hK => ?_) AllReadyH.nil)
    refine step_app (by rfl) _ _ 35 (by rfl) .u8 5 Try.underlying35 1 u8_info (by omega) w1.drew.heap.size (.slice (some ⟨g4, 0, none⟩) (4 + 4) c4) (4 + 4) (appF (wordF g) 4 (wordF s)) (by rfl) HO4_19.out (some ⟨(w1.drew).heap.size, 0, none⟩) 3 3 (three p q n) (by rfl) HT_19.out (fun h => by cases h) (by omega) HB_19.out.size ?_
    intro v5 w5 ho5 hb5 hs5
    have HB_20 := Lib.hid (show Below w1.drew.heap.size w1.drew w5 from HB_19.out.trans hb5)
    have HO5_20 := Lib.hid ho5
    refine hK.out _ _ ?_ (fun hHeld => ?_)
    · (try dsimp only); exact HKP.out _ HB_20.out
    clear hK K
    (try simp only [Act.put, List.setIfInBounds_toArray, List.set_cons_zero, List.set_cons_succ, List.getElem_toArray, List.getElem_cons_succ, List.getElem_cons_zero])
    refine wpAnyH_ready (rs := [21]) (by kernel_rfl) (by simp) ?_
    refine (AllReadyH.cons rfl (fun K hK => ?_) AllReadyH.nil)
    refine step_app (by rfl) _ _ 35 (by rfl) .u8 5 Try.underlying35 1 u8_info (by omega) w1.drew.heap.size v5 (4 + 4 + 3) (appF (appF (wordF g) 4 (wordF s)) (4 + 4) (three p q n)) (by rfl) HO5_20.out (some ad) n c f (by rfl) (HR.out.below (bbt HW1.out HB_20.out)) (fun h => by cases h) (by omega) HB_20.out.size ?_
    intro v6 w6 ho6 hb6 hs6
    have HB_21 := Lib.hid (show Below w1.drew.heap.size w1.drew w6 from HB_20.out.trans hb6)
    refine hK.out _ _ ?_ (fun hHeld => ?_)
    · (try dsimp only); exact HKP.out _ HB_21.out
    clear hK K
    (try simp only [Act.put, List.setIfInBounds_toArray, List.set_cons_zero, List.set_cons_succ, List.getElem_toArray, List.getElem_cons_succ, List.getElem_cons_zero])
    (try simp only [Act.put, List.setIfInBounds_toArray, List.set_cons_zero, List.set_cons_succ, List.getElem_toArray, List.getElem_cons_succ, List.getElem_cons_zero])
    refine wpAnyH_take (i := 22) (v := ?_) rfl (by kernel_rfl) (by kernel_rfl) (by kernel_rfl) (fun _ _ _ h => h) (Or.inl ⟨by kernel_rfl, ?_⟩) (by assumption) ?_
    rotate_left
    · intro w hSw; (try dsimp only at hSw); go_simp <;> (try with_reducible rfl)
    (try simp only [Act.put, List.setIfInBounds_toArray, List.set_cons_zero, List.set_cons_succ, List.getElem_toArray, List.getElem_cons_succ, List.getElem_cons_zero])
    refine wpAnyH_done (by kernel_rfl) ?_ _
    have ho7 : Own .u8 5 w6 w1.drew.heap.size v6 (11 + n) (bodyF g s p q n f) := by
      have e : 4 + 4 + 3 + n = 11 + n := by omega
      rw [e] at ho6
      exact ho6.congr (body_app g s p q n f)
    have HB6 := Lib.hid (bbt HW1.out HB_21.out)
    have hbs : w1.drew.heap.size ≤ w6.heap.size := HB_21.out.size
    have HBB := Lib.hid (HB_21.out)
    have hws : w.heap.size ≤ w1.drew.heap.size := HW1.out.size
    clear hb6 hs6 hwp hwq hwn
    go_wp2
    go_loopw [3] (fun v wr => ∃ k : Nat, 11 + n ≤ k ∧ k ≤ 60 ∧ Own .u8 5 wr w1.drew.heap.size v k (bodyF g s p q n f) ∧ Below w1.drew.heap.size w1.drew wr) (fun v _ => 60 - lenOf v)
    case atStart => exact ⟨11 + n, Nat.le_refl _, by omega, ho7, HBB.out⟩
    case round =>
      obtain ⟨k, hk1, hk2, hok, hbk⟩ := hrel
      obtain ⟨gk, ck, rfl, hgk, hck⟩ := hok.formP (by omega)
      have HOk := Lib.hid hok
      have HBk := Lib.hid hbk
      have hsz := hbk.size
      clear hok hbk ho6 ho7
      by_cases hlt : k < 60
      · have hown1 := HOk.out.alloc (.cells #[.int .u8 0] 5)
        have hrd1 : Rd .u8 (wr.alloc (.cells #[.int .u8 0] 5)) (some ⟨wr.heap.size, 0, none⟩) 1 (fun _ => 0) := (row_one wr 0).rd0 (Nat.le_refl _)
        go_wp2_with (at_builtin; refine wpList_app rfl _ _ 35 rfl .u8 5 Try.underlying35 1 u8_info (by omega) w1.drew.heap.size _ k (bodyF g s p q n f) rfl hown1 (some ⟨wr.heap.size, 0, none⟩) 1 1 (fun _ => 0) rfl hrd1 (fun h => by cases h) (by omega) (by rw [World.size_alloc]; omega) ?_; intro v9 w9 hown9 hb9 hs9)
        have hown10 : Own .u8 5 w9 w1.drew.heap.size v9 (k + 1) (bodyF g s p q n f) := hown9.congr (body_zero hk1)
        have HB9 := Lib.hid ((HBk.out.trans ((below_new wr (.cells #[.int .u8 0] 5)).mono hsz)).trans hb9)
        obtain ⟨g9, c9, rfl, _, _⟩ := hown10.formP (by omega)
        clear hown1 hrd1 hown9 hb9 hs9
        go_wp2
        go_roundw
        case rel => first | exact ⟨k + 1, by omega, by omega, hown10, HB9.out⟩ | exact ⟨_, _, _, _, _, _, _, ⟨k + 1, by omega, by omega, hown10, HB9.out⟩, rfl⟩
        case measure => simp [lenOf]; omega
      · obtain rfl : k = 60 := by omega
        go_wp2_with (go_at_call 83; refine Calls.mono (rsealN (some ⟨gk, 0, none⟩) 60 ck (bodyF g s p q n f) _ HOk.out.rd_ (bodyF_lt hp hq (by omega) HF.out) (by omega) (fun h => by cases h)) ?_; rintro e w10 ⟨v10, rfl, hv10, hb10, hn10⟩)
        go_ret
        exact ⟨⟨v10, rfl, hv10, fun k hk => Nat.le_trans (bbt HW1.out HBk.out).size (hn10 k hk)⟩, bbt (bbt HW1.out HBk.out) hb10⟩
set_option maxRecDepth 100000 in
set_option maxHeartbeats 2000000 in
theorem rencodeN (g s p q : Nat) (A : Option Addr) (n c : Nat) (f : Nat → Nat) (w : World) (hg : g < 4294967296) (hs : s < 4294967296) (hr : Rd .u8 w A n f) (hf : ∀ j, j < n → f j < 256) (hm : mayP p q n) :
    Calls Try.prog 54 #[cellV g s p q A n c] w fun e w' => (∃ v, e = .returned (.tuple #[v, .int .i64 0]) ∧ Byt w' v 64 (sectF g s p q n f) ∧ NewB w v) ∧ Below w.heap.size w w' := by
  have hm2 := hm
  unfold mayP at hm2
  obtain ⟨m1, m2, m3, m4, m5, m6, _⟩ := hm2
  obtain ⟨ad, rfl, _⟩ := hr.some_ (by omega)
  have hpq : p < 256 ∧ q < 256 := by omega
  have HB := Lib.hid (below_new w (.cells #[.int .u32 (g : Nat), .int .u32 (s : Nat), .int .i64 (p : Nat), .int .i64 (q : Nat), .slice (some ad) n c] 97))
  have HX := Lib.hid (BoxC.new w g s (p : Nat) (q : Nat) (some ad) n c)
  have HD := Lib.hid (decide_eq_true hm)
  have HR := Lib.hid hr
  have HF := Lib.hid hf
  obtain ⟨x0, x1, x2, x3, x4⟩ := HX.out
  clear hm hr hf
  go_enter Try.func54, Try.ntmps54
  go_wp2_with (first
    | (go_at_call 69; refine (rmay_any g s p q (some ad) n c _ (by omega)).mono ?_; rintro e w1 ⟨rfl, hb1⟩; rw [HD.out]; have HX1 := Lib.hid (HX.out.below hb1); have HB1 := Lib.hid (bbt HB.out hb1); clear hb1 x0 x1 x2 x3 x4; obtain ⟨x0, x1, x2, x3, x4⟩ := HX1.out; have hxl := HX1.out.lt)
    | (go_at_call 70; refine Calls.mono (writeN g s p q ad n c f _ hg hs hpq.1 hpq.2 (by omega) (HR.out.below HB1.out) HF.out) ?_; rintro e w2 ⟨⟨v2, rfl, hv2, hn2⟩, hb2⟩))
  go_ret2
  exact ⟨⟨v2, rfl, hv2, fun k hk => Nat.le_trans HB1.out.size (hn2 k hk)⟩, bbt HB1.out hb2⟩
end Go.Proofs.Yteeomidlnijfbaa
