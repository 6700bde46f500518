/- Contract: what Append does, the walk. -/
import Derived.Test.YtmcbmbcfgefocaaPGm
import Derived.Deep.RegionHeld3
namespace Go.Proofs.Ytmcbmbcfgefocaa
open Go.RowKit Go.Shelf
set_option linter.unusedSimpArgs false
set_option linter.unusedVariables false

section
variable {w0 w w' : World} {gl gd gq : Nat} {S S' : DS} {Q Q' : QS} {v : Value} {rs : List Rec} {Z Z' : Nat → Prop}
theorem need_one_row {R : RowD} : needE 1 (fun _ => R) = if needF R.n = 0 then refE 1 else .returned (.int .i64 (needF R.n : Nat)) := by
  unfold needE
  by_cases h : needF R.n = 0
  · rw [if_pos h, if_pos ⟨0, by omega, h⟩]
  · rw [if_neg h, if_neg (fun ⟨i, _, hi⟩ => h hi)]
    congr 2
    show ((0 + needF R.n : Nat) : Int) = _
    rw [Nat.zero_add]
theorem append_step {w3 w6 : World} {u : Value} {r : Rec} (hL : Led w0 w3 gl gd gq S Q v rs Z) (hb : Below w3.heap.size w3 w6) (hu : Byt w6 u r.1 r.2) (ht : Typ8 w6 u) :
    AppR w0 w6 v u rs.length fun v' w9 => (∃ A9 c9, v' = .slice A9 (rs.length + 1) c9) ∧ (∀ k, Z k → w9.heap[k]? = w3.heap[k]?) ∧ w9.cell? ⟨gl, 2, none⟩ = some v ∧ w9.frozen? ⟨gl, 2, none⟩ = false ∧ Led w0 (w9.setCell ⟨gl, 2, none⟩ v') gl gd gq S Q v' (rs ++ [r]) Z ∧ Kept Z w3 (w9.setCell ⟨gl, 2, none⟩ v') := by
  have h0 := hL.bel.size
  have h1 := hb.size
  refine clones_app (hL.2.2.1.below hb) hu ht (by omega) hu.one fun v' w' a1 a2 a3 => ⟨by obtain ⟨A9, c9, e⟩ := a1.form; rw [List.length_append] at e; exact ⟨A9, c9, e⟩, fun k hk => (a2.block k (by have := (hL.z_lt k hk).2; rw [World.size_alloc]; omega) fun e => hL.2.2.2.2 k e.symm hk).trans (((below_new _ _).block k (by have := (hL.z_lt k hk).2; omega)).trans (hb.block k (hL.z_lt k hk).2)), append_fin hL (bbt hb (below_new _ _)) a2 a1 ?_⟩
  rw [World.size_alloc]
  exact a3
set_option maxRecDepth 100000 in
set_option maxHeartbeats 4000000 in
theorem append_any (hL : Led w0 w gl gd gq S Q v rs Z) (hP : S.P.length ≤ 900000) {br bl : Nat} {A : Option Addr} {n c : Nat} {f : Nat → Nat} (zr : Z br) (zl : Z bl) (hbr : Boxed w br 35 (.slice A n c)) (hbl : Boxed w bl 28 (.pointer (some ⟨gl, 0, none⟩))) (hrec : ∀ V, Kept Z w V → Byt V (.slice A n c) n f) (hn : n ≤ 9223372036854775807) (hlen : rs.length ≤ 1000) :
    Calls Try.prog 37 #[.pointer (some ⟨br, 0, none⟩), .pointer (some ⟨bl, 0, none⟩)] w fun e w' => AppPost w0 w w' e gl gd gq S Q v rs ⟨A, n, c, f⟩ Z := by
  have hzw := fun k hk => (hL.z_lt k hk).2
  have hb1 := below_new w (.cells #[.slice A n c] 35)
  have hL1 : Led w0 (w.alloc (.cells #[.slice A n c] 35)) gl gd gq S Q v rs (fun k => Z k ∨ k = w.heap.size) := hL.new hb1 fun k hk => hk.imp id fun e => by subst e; simp
  obtain ⟨x0, x1, x2, x3⟩ := hL1.cells
  have cr : (w.alloc (.cells #[.slice A n c] 35)).cell? ⟨br, 0, none⟩ = some (.slice A n c) := Boxed.cell (show Boxed _ br 35 (.slice A n c) from (hb1.block br (hzw br zr)).trans hbr)
  have cl : (w.alloc (.cells #[.slice A n c] 35)).cell? ⟨bl, 0, none⟩ = some (.pointer (some ⟨gl, 0, none⟩)) := Boxed.cell (show Boxed _ bl 28 (.pointer (some ⟨gl, 0, none⟩)) from (hb1.block bl (hzw bl zl)).trans hbl)
  have cr0 := hbr.cell
  obtain ⟨B, d, rfl⟩ := hL.2.2.1.form
  have HND : Hid (Calls Try.prog 26 #[.slice (some ⟨w.heap.size, 0, none⟩) 1 1] (w.alloc (.cells #[.slice A n c] 35)) fun e w' => e = (if needF n = 0 then refE 1 else .returned (.int .i64 (needF n : Nat))) ∧ w.alloc (.cells #[.slice A n c] 35) = w') := Lib.hid (by
    have := lneed_any (some ⟨w.heap.size, 0, none⟩) 1 1 (fun _ => ⟨A, n, c, f⟩) (more_in hrec hn (V := w.alloc (.cells #[.slice A n c] 35)) ⟨fun _ _ => rfl, Nat.le_refl _⟩ hzw) (by omega)
    rw [need_one_row] at this
    exact this)
  have hk1 : Kept Z w (w.alloc (.cells #[.slice A n c] 35)) := Kept.below hzw hb1
  have HL1 := Lib.hid hL1
  have HK1 := Lib.hid hk1
  have HPS := Lib.hid (fun (e : Ending) (h : AppC S Q rs ⟨A, n, c, f⟩ e S Q rs) => (show AppPost w0 w (w.alloc (.cells #[.slice A n c] 35)) e gl gd gq S Q (.slice B rs.length d) rs ⟨A, n, c, f⟩ Z from ⟨S, Q, .slice B rs.length d, rs, h, hL1.new (Below.refl _ _) fun k hk => .inl (.inl hk), hk1⟩))
  by_cases h0 : needF n = 0
  · have HP0 := Lib.hid (HPS.out _ (.arg h0))
    rw [if_pos h0] at HND
    clear h0 hL hL1 hbr hbl hrec hk1
    go_enter Try.func37, Try.ntmps37
    go_wp2_with (go_at_call 26; refine HND.out.mono ?_; rintro e w2 ⟨rfl, rfl⟩)
    exact ⟨rfl, HP0.out⟩
  · rw [if_neg h0] at HND
    by_cases hful : 200 ≤ rs.length
    · have HP0 := Lib.hid (HPS.out _ (.full h0 hful))
      have hf : (200 : Int) ≤ (rs.length : Int) := by omega
      clear h0 hL hL1 hbr hbl hrec hk1 hful
      go_enter Try.func37, Try.ntmps37
      go_wp2_with (go_at_call 26; refine HND.out.mono ?_; rintro e w2 ⟨rfl, rfl⟩)
      exact ⟨rfl, HP0.out⟩
    · have hf : (rs.length : Int) < 200 := by omega
      have hadd := hL1.1.addT (A := some ⟨w.heap.size, 0, none⟩) (n := 1) (c := 1) (R := fun _ => ⟨A, n, c, f⟩) (fun V hV => more_in hrec hn ⟨fun k hk => hV.1 k (.inr (.inr hk)), hV.2⟩ hzw) (by omega) hP
      have HAD := Lib.hid hadd
      have HH := Lib.hid (And.intro h0 (show rs.length < 200 by omega))
      have HZW := Lib.hid hzw
      have HBR := Lib.hid hbr
      have HBL := Lib.hid hbl
      have HRC := Lib.hid hrec
      clear h0 hful hadd hL hL1 hbr hbl hrec hk1 HPS hzw
      go_enter Try.func37, Try.ntmps37
      go_wp2_with (go_at_call 26; refine HND.out.mono ?_; rintro e w2 ⟨rfl, rfl⟩)
      go_at_call 38
      refine HAD.out.mono ?_
      rintro e w3 ⟨S', Q', k, rfl, ha, hh, hk, hfr⟩
      have hL3 := led_added HL1.out hh hk hfr
      have HL3 := Lib.hid hL3
      have hk3 : Kept Z w w3 := HK1.out.trans ⟨fun j hj => hk.1 j (.inr (.inr (.inl hj))), hk.2⟩
      have HK3 := Lib.hid hk3
      have HA := Lib.hid ha
      have hbr3 : Boxed w3 br 35 (.slice A n c) := (hk3.1 br zr).trans HBR.out
      have hbl3 : Boxed w3 bl 28 (.pointer (some ⟨gl, 0, none⟩)) := (hk3.1 bl zl).trans HBL.out
      have HB3 := Lib.hid (And.intro hbr3 hbl3)
      have HBY := Lib.hid (HRC.out w3 hk3)
      have HN1 := Lib.hid (show n ≤ 1000000 from by
        have := HH.out.1
        unfold needF at this
        split at this
        · exact absurd rfl this
        · omega)
      clear ha hh hk hfr hk3 x0 x1 x2 x3 cr cl cr0
      have HFIN := Lib.hid (fun (hk : k ≠ 0) => (show AppPost w0 w w3 (mustE k) gl gd gq S Q (.slice B rs.length d) rs ⟨A, n, c, f⟩ Z from ⟨S', Q', .slice B rs.length d, rs, .bad HH.out.1 HH.out.2 HA.out hk, HL3.out.new (Below.refl _ _) fun k hk => .inl (.inl hk), HK3.out⟩))
      by_cases k0 : k = 0
      · subst k0
        have HM := Lib.hid (fun u => must_any 0 u)
        rw [show mustE 0 = .returned (.tuple #[]) from rfl] at HM
        obtain ⟨y0, y1, y2, y3⟩ := hL3.cells
        have cr := hbr3.cell
        have cl := hbl3.cell
        have HCE := Lib.hid (fun (w6 : World) (hb : Below w3.heap.size w3 w6) => (show w6.cell? ⟨gl, 2, none⟩ = some (.slice B rs.length d) ∧ w6.cell? ⟨br, 0, none⟩ = some (.slice A n c) ∧ w6.cell? ⟨bl, 0, none⟩ = some (.pointer (some ⟨gl, 0, none⟩)) from ⟨(HL3.out.below hb).cells.2.2.1, Boxed.cell (show Boxed w6 br 35 (.slice A n c) from (hb.block br hbr3.lt).trans hbr3), Boxed.cell (show Boxed w6 bl 28 (.pointer (some ⟨gl, 0, none⟩)) from (hb.block bl hbl3.lt).trans hbl3)⟩))
        have HBR3 := Lib.hid (fun (w9 : World) (hk : ∀ k, (Z k ∨ k = w.heap.size) → w9.heap[k]? = w3.heap[k]?) => Boxed.cell (show Boxed w9 br 35 (.slice A n c) from (hk br (.inl zr)).trans hbr3))
        have HBL3 := Lib.hid (fun (w9 : World) (hk : ∀ k, (Z k ∨ k = w.heap.size) → w9.heap[k]? = w3.heap[k]?) => Boxed.cell (show Boxed w9 bl 28 (.pointer (some ⟨gl, 0, none⟩)) from (hk bl (.inl zl)).trans hbl3))
        clear hL3 hbr3 hbl3 HFIN
        go_upto_region 5 with (go_at_call 30; refine (HM.out _).mono ?_; rintro e w4 ⟨rfl, hw4⟩; subst hw4)
        have HCL : Hid (∀ u, Below w3.heap.size w3 u → Calls Try.prog 39 #[.slice A n c] u fun e w' => ∃ v, e = .returned v ∧ ∃ A2 c2, v = .slice A2 n c2 ∧ Byt w' (.slice A2 n c2) n f ∧ Typ8 w' (.slice A2 n c2) ∧ Below w3.heap.size w3 w') := Lib.hid fun u hu => (clone_byt (HBY.out.below hu) HN1.out).mono fun e w' h => by
          obtain ⟨v', rfl, h1, h2, h3, _⟩ := h
          obtain ⟨A2, c2, rfl, _⟩ := id h1
          exact ⟨_, rfl, A2, c2, rfl, h1, h2, bbt hu h3⟩
        have HCF := Lib.hid (fun (args : Array Value) (u : World) => (show (callFunc 39 args).run Try.prog u = .ok (.enter 39 args) u from by simp [go_sem]))
        have HB0 := Lib.hid (show Below w3.heap.size w3 w3.drew from Below.drew_ (Below.refl _ _))
        have HS := Lib.hid (fun (w6 : World) (hb : Below w3.heap.size w3 w6) => (show w6.cell? ⟨bl, 0, none⟩ = some (.pointer (some ⟨gl, 0, none⟩)) ∧ w6.cell? ⟨br, 0, none⟩ = some (.slice A n c) from ⟨(HCE.out w6 hb).2.2, (HCE.out w6 hb).2.1⟩))
        have HS0 := Lib.hid (HS.out _ (Below.refl _ _))
        clear y0 y1 y3 cr cl
        have HNE := Lib.hid (show bl ≠ gl ∧ br ≠ gl from ⟨fun e => HL3.out.2.2.2.1 (.inl (e ▸ zl)), fun e => HL3.out.2.2.2.1 (.inl (e ▸ zr))⟩)
        refine wp_region_held_drew (S := fun w' => w'.cell? ⟨bl, 0, none⟩ = some (.pointer (some ⟨gl, 0, none⟩)) ∧ w'.cell? ⟨br, 0, none⟩ = some (.slice A n c)) (by kernel_rfl) ?_ (fun hHeld => ?_)
        · (try dsimp only); (first | exact HS0.out | exact HS6.out | exact HS7.out | exact HS9.out | exact HS10.out)
        refine wpAnyH_take (i := 0) (v := ?_) rfl (by kernel_rfl) (by kernel_rfl) (by kernel_rfl) (fun _ _ _ h => h) (Or.inl ⟨by kernel_rfl, ?_⟩) (by assumption) ?_
        rotate_left
        · intro w hSw; (try dsimp only at hSw); go_simp <;> (try with_reducible rfl)
        (try simp only [Act.put, List.setIfInBounds_toArray, List.set_cons_zero, List.set_cons_succ, List.getElem_toArray, List.getElem_cons_succ, List.getElem_cons_zero])
        refine wpAnyH_take (i := 1) (v := ?_) rfl (by kernel_rfl) (by kernel_rfl) (by kernel_rfl) (fun _ _ _ h => h) (Or.inl ⟨by kernel_rfl, ?_⟩) (by assumption) ?_
        rotate_left
        · intro w hSw; (try dsimp only at hSw); go_simp <;> (try with_reducible rfl)
        (try simp only [Act.put, List.setIfInBounds_toArray, List.set_cons_zero, List.set_cons_succ, List.getElem_toArray, List.getElem_cons_succ, List.getElem_cons_zero])
        refine wpAnyH_take (i := 2) (v := ?_) rfl (by kernel_rfl) (by kernel_rfl) (by kernel_rfl) (fun _ _ _ h => h) (Or.inl ⟨by kernel_rfl, ?_⟩) (by assumption) ?_
        rotate_left
        · intro w hSw; (try dsimp only at hSw); go_simp <;> (try with_reducible rfl)
        (try simp only [Act.put, List.setIfInBounds_toArray, List.set_cons_zero, List.set_cons_succ, List.getElem_toArray, List.getElem_cons_succ, List.getElem_cons_zero])
        refine wpAnyH_take (i := 3) (v := ?_) rfl (by kernel_rfl) (by kernel_rfl) (by kernel_rfl) (fun _ _ _ h => h) (Or.inl ⟨by kernel_rfl, ?_⟩) (by assumption) ?_
        rotate_left
        · intro w hSw; (try dsimp only at hSw); go_simp <;> (try with_reducible rfl)
        (try simp only [Act.put, List.setIfInBounds_toArray, List.set_cons_zero, List.set_cons_succ, List.getElem_toArray, List.getElem_cons_succ, List.getElem_cons_zero])
        refine wpAnyH_take (i := 5) (v := ?_) rfl (by kernel_rfl) (by kernel_rfl) (by kernel_rfl) (fun _ _ _ h => h) (Or.inl ⟨by kernel_rfl, ?_⟩) (by assumption) ?_
        rotate_left
        · intro w hSw; (try dsimp only at hSw); go_simp <;> (try with_reducible rfl)
        (try simp only [Act.put, List.setIfInBounds_toArray, List.set_cons_zero, List.set_cons_succ, List.getElem_toArray, List.getElem_cons_succ, List.getElem_cons_zero])
        refine wpAnyH_ready (rs := [4, 6]) (by kernel_rfl) (by simp) ?_
        refine (AllReadyH.cons rfl (fun K hK => ?_) (AllReadyH.cons rfl (fun K hK => ?_) AllReadyH.nil))
        · go_simp
          refine hK.out _ _ ?_ (fun hHeld => ?_)
          · (try dsimp only); (first | exact HS0.out | exact HS6.out | exact HS7.out | exact HS9.out | exact HS10.out)
          clear hK K
          (try simp only [Act.put, List.setIfInBounds_toArray, List.set_cons_zero, List.set_cons_succ, List.getElem_toArray, List.getElem_cons_succ, List.getElem_cons_zero])
          refine wpAnyH_ready (rs := [6]) (by kernel_rfl) (by simp) ?_
          refine (AllReadyH.cons rfl (fun K hK => ?_) AllReadyH.nil)
          go_simp
          go_at_call 39
          refine (HCL.out w3.drew HB0.out).mono ?_
          rintro e w6 ⟨v27, rfl, A2, c2, rfl, hu6, ht6, hb6⟩
          have HAP := Lib.hid (append_step (r := (n, f)) HL3.out hb6 hu6 ht6)
          have HS6 := Lib.hid (HS.out w6 hb6)
          have HS7 := Lib.hid (HS.out (w6.alloc (.cells #[.slice A2 n c2] 35)) (bbt hb6 (below_new _ _)))
          have d6 := (HCE.out w6 hb6).1
          have d7 := (HCE.out (w6.alloc (.cells #[.slice A2 n c2] 35)) (bbt hb6 (below_new _ _))).1
          clear hu6 ht6 hb6
          refine hK.out _ _ ?_ (fun hHeld => ?_)
          · (try dsimp only); (first | exact HS0.out | exact HS6.out | exact HS7.out | exact HS9.out | exact HS10.out)
          clear hK K
          (try simp only [Act.put, List.setIfInBounds_toArray, List.set_cons_zero, List.set_cons_succ, List.getElem_toArray, List.getElem_cons_succ, List.getElem_cons_zero])
          refine wpAnyH_ready (rs := [7]) (by kernel_rfl) (by simp) ?_
          refine (AllReadyH.cons rfl (fun K hK => ?_) AllReadyH.nil)
          go_simp
          refine hK.out _ _ ?_ (fun hHeld => ?_)
          · (try dsimp only); (first | exact HS0.out | exact HS6.out | exact HS7.out | exact HS9.out | exact HS10.out)
          clear hK K
          (try simp only [Act.put, List.setIfInBounds_toArray, List.set_cons_zero, List.set_cons_succ, List.getElem_toArray, List.getElem_cons_succ, List.getElem_cons_zero])
          refine wpAnyH_ready (rs := [8]) (by kernel_rfl) (by simp) ?_
          refine (AllReadyH.cons rfl (fun K hK => ?_) AllReadyH.nil)
          obtain ⟨vs, o1, o2, o3, o4, o5⟩ := HAP.out
          refine step_append_at rfl (.tmp 25) (.tmp 28) 33 rfl w0.heap.size 35 (.slice none 0 0) 1 24 Try.underlying33 rows_info rfl (by omega) (.slice B rs.length d) rs.length vs (by simp [Act.eval, Act.put]) o1 ⟨w6.heap.size, 0, none⟩ 1 1 [.slice A2 n c2] (by simp [Act.eval, Act.put]) rfl o2 o3 (by simp only [maxLen]; omega) (by omega) o4 ?_
          intro v9 w9 p1 p2 p3
          obtain ⟨⟨A9, c9, rfl⟩, q0, q1, q2, q3, q4⟩ := o5 v9 w9 p1 p2 p3
          have HS9 := Lib.hid (And.intro (HBL3.out w9 q0) (HBR3.out w9 q0))
          have HS10 := Lib.hid (And.intro ((World.cell?_of_block (Below.heap_setCell w9 ⟨gl, 2, none⟩ (.slice A9 (rs.length + 1) c9) bl HNE.out.1)).trans (HBL3.out w9 q0)) ((World.cell?_of_block (Below.heap_setCell w9 ⟨gl, 2, none⟩ (.slice A9 (rs.length + 1) c9) br HNE.out.2)).trans (HBR3.out w9 q0)))
          have H9 := Lib.hid (And.intro q3 q4)
          clear o1 o2 o3 o4 o5 p1 p2 p3 q3 q4 q0
          refine hK.out _ _ ?_ (fun hHeld => ?_)
          · (try dsimp only); (first | exact HS0.out | exact HS6.out | exact HS7.out | exact HS9.out | exact HS10.out)
          clear hK K
          (try simp only [Act.put, List.setIfInBounds_toArray, List.set_cons_zero, List.set_cons_succ, List.getElem_toArray, List.getElem_cons_succ, List.getElem_cons_zero])
          refine wpAnyH_take (i := 9) (v := ?_) rfl (by kernel_rfl) (by kernel_rfl) (by kernel_rfl) (fun _ _ _ h => h) (Or.inl ⟨by kernel_rfl, ?_⟩) (by assumption) ?_
          rotate_left
          · intro w hSw; (try dsimp only at hSw); go_simp <;> (try with_reducible rfl)
          (try simp only [Act.put, List.setIfInBounds_toArray, List.set_cons_zero, List.set_cons_succ, List.getElem_toArray, List.getElem_cons_succ, List.getElem_cons_zero])
          refine wpAnyH_take (i := 10) (v := ?_) rfl (by kernel_rfl) (by kernel_rfl) (by kernel_rfl) (fun _ _ _ h => h) (Or.inl ⟨by kernel_rfl, ?_⟩) (by assumption) ?_
          rotate_left
          · intro w hSw; (try dsimp only at hSw); go_simp <;> (try with_reducible rfl)
          (try simp only [Act.put, List.setIfInBounds_toArray, List.set_cons_zero, List.set_cons_succ, List.getElem_toArray, List.getElem_cons_succ, List.getElem_cons_zero])
          refine wpAnyH_ready (rs := [11]) (by kernel_rfl) (by simp) ?_
          refine (AllReadyH.cons rfl (fun K hK => ?_) AllReadyH.nil)
          go_simp
          refine hK.out _ _ ?_ (fun hHeld => ?_)
          · (try dsimp only); (first | exact HS0.out | exact HS6.out | exact HS7.out | exact HS9.out | exact HS10.out)
          clear hK K
          (try simp only [Act.put, List.setIfInBounds_toArray, List.set_cons_zero, List.set_cons_succ, List.getElem_toArray, List.getElem_cons_succ, List.getElem_cons_zero])
          refine wpAnyH_done (by kernel_rfl) ?_ _
          go_end0
          exact ⟨S', Q', _, _, .ok HH.out.1 HH.out.2 HA.out, H9.out.1.new (Below.refl _ _) fun k hk => .inl (.inl hk), HK3.out.trans ⟨fun k hk => H9.out.2.1 k (.inl hk), H9.out.2.2⟩⟩
        · go_simp
          go_at_call 39
          refine (HCL.out w3.drew HB0.out).mono ?_
          rintro e w6 ⟨v27, rfl, A2, c2, rfl, hu6, ht6, hb6⟩
          have HAP := Lib.hid (append_step (r := (n, f)) HL3.out hb6 hu6 ht6)
          have HS6 := Lib.hid (HS.out w6 hb6)
          have HS7 := Lib.hid (HS.out (w6.alloc (.cells #[.slice A2 n c2] 35)) (bbt hb6 (below_new _ _)))
          have d6 := (HCE.out w6 hb6).1
          have d7 := (HCE.out (w6.alloc (.cells #[.slice A2 n c2] 35)) (bbt hb6 (below_new _ _))).1
          clear hu6 ht6 hb6
          refine hK.out _ _ ?_ (fun hHeld => ?_)
          · (try dsimp only); (first | exact HS0.out | exact HS6.out | exact HS7.out | exact HS9.out | exact HS10.out)
          clear hK K
          (try simp only [Act.put, List.setIfInBounds_toArray, List.set_cons_zero, List.set_cons_succ, List.getElem_toArray, List.getElem_cons_succ, List.getElem_cons_zero])
          refine wpAnyH_ready (rs := [4, 7]) (by kernel_rfl) (by simp) ?_
          refine (AllReadyH.cons rfl (fun K hK => ?_) (AllReadyH.cons rfl (fun K hK => ?_) AllReadyH.nil))
          · go_simp
            refine hK.out _ _ ?_ (fun hHeld => ?_)
            · (try dsimp only); (first | exact HS0.out | exact HS6.out | exact HS7.out | exact HS9.out | exact HS10.out)
            clear hK K
            (try simp only [Act.put, List.setIfInBounds_toArray, List.set_cons_zero, List.set_cons_succ, List.getElem_toArray, List.getElem_cons_succ, List.getElem_cons_zero])
            refine wpAnyH_ready (rs := [7]) (by kernel_rfl) (by simp) ?_
            refine (AllReadyH.cons rfl (fun K hK => ?_) AllReadyH.nil)
            go_simp
            refine hK.out _ _ ?_ (fun hHeld => ?_)
            · (try dsimp only); (first | exact HS0.out | exact HS6.out | exact HS7.out | exact HS9.out | exact HS10.out)
            clear hK K
            (try simp only [Act.put, List.setIfInBounds_toArray, List.set_cons_zero, List.set_cons_succ, List.getElem_toArray, List.getElem_cons_succ, List.getElem_cons_zero])
            refine wpAnyH_ready (rs := [8]) (by kernel_rfl) (by simp) ?_
            refine (AllReadyH.cons rfl (fun K hK => ?_) AllReadyH.nil)
            obtain ⟨vs, o1, o2, o3, o4, o5⟩ := HAP.out
            refine step_append_at rfl (.tmp 25) (.tmp 28) 33 rfl w0.heap.size 35 (.slice none 0 0) 1 24 Try.underlying33 rows_info rfl (by omega) (.slice B rs.length d) rs.length vs (by simp [Act.eval, Act.put]) o1 ⟨w6.heap.size, 0, none⟩ 1 1 [.slice A2 n c2] (by simp [Act.eval, Act.put]) rfl o2 o3 (by simp only [maxLen]; omega) (by omega) o4 ?_
            intro v9 w9 p1 p2 p3
            obtain ⟨⟨A9, c9, rfl⟩, q0, q1, q2, q3, q4⟩ := o5 v9 w9 p1 p2 p3
            have HS9 := Lib.hid (And.intro (HBL3.out w9 q0) (HBR3.out w9 q0))
            have HS10 := Lib.hid (And.intro ((World.cell?_of_block (Below.heap_setCell w9 ⟨gl, 2, none⟩ (.slice A9 (rs.length + 1) c9) bl HNE.out.1)).trans (HBL3.out w9 q0)) ((World.cell?_of_block (Below.heap_setCell w9 ⟨gl, 2, none⟩ (.slice A9 (rs.length + 1) c9) br HNE.out.2)).trans (HBR3.out w9 q0)))
            have H9 := Lib.hid (And.intro q3 q4)
            clear o1 o2 o3 o4 o5 p1 p2 p3 q3 q4 q0
            refine hK.out _ _ ?_ (fun hHeld => ?_)
            · (try dsimp only); (first | exact HS0.out | exact HS6.out | exact HS7.out | exact HS9.out | exact HS10.out)
            clear hK K
            (try simp only [Act.put, List.setIfInBounds_toArray, List.set_cons_zero, List.set_cons_succ, List.getElem_toArray, List.getElem_cons_succ, List.getElem_cons_zero])
            refine wpAnyH_take (i := 9) (v := ?_) rfl (by kernel_rfl) (by kernel_rfl) (by kernel_rfl) (fun _ _ _ h => h) (Or.inl ⟨by kernel_rfl, ?_⟩) (by assumption) ?_
            rotate_left
            · intro w hSw; (try dsimp only at hSw); go_simp <;> (try with_reducible rfl)
            (try simp only [Act.put, List.setIfInBounds_toArray, List.set_cons_zero, List.set_cons_succ, List.getElem_toArray, List.getElem_cons_succ, List.getElem_cons_zero])
            refine wpAnyH_take (i := 10) (v := ?_) rfl (by kernel_rfl) (by kernel_rfl) (by kernel_rfl) (fun _ _ _ h => h) (Or.inl ⟨by kernel_rfl, ?_⟩) (by assumption) ?_
            rotate_left
            · intro w hSw; (try dsimp only at hSw); go_simp <;> (try with_reducible rfl)
            (try simp only [Act.put, List.setIfInBounds_toArray, List.set_cons_zero, List.set_cons_succ, List.getElem_toArray, List.getElem_cons_succ, List.getElem_cons_zero])
            refine wpAnyH_ready (rs := [11]) (by kernel_rfl) (by simp) ?_
            refine (AllReadyH.cons rfl (fun K hK => ?_) AllReadyH.nil)
            go_simp
            refine hK.out _ _ ?_ (fun hHeld => ?_)
            · (try dsimp only); (first | exact HS0.out | exact HS6.out | exact HS7.out | exact HS9.out | exact HS10.out)
            clear hK K
            (try simp only [Act.put, List.setIfInBounds_toArray, List.set_cons_zero, List.set_cons_succ, List.getElem_toArray, List.getElem_cons_succ, List.getElem_cons_zero])
            refine wpAnyH_done (by kernel_rfl) ?_ _
            go_end0
            exact ⟨S', Q', _, _, .ok HH.out.1 HH.out.2 HA.out, H9.out.1.new (Below.refl _ _) fun k hk => .inl (.inl hk), HK3.out.trans ⟨fun k hk => H9.out.2.1 k (.inl hk), H9.out.2.2⟩⟩
          · go_simp
            refine hK.out _ _ ?_ (fun hHeld => ?_)
            · (try dsimp only); (first | exact HS0.out | exact HS6.out | exact HS7.out | exact HS9.out | exact HS10.out)
            clear hK K
            (try simp only [Act.put, List.setIfInBounds_toArray, List.set_cons_zero, List.set_cons_succ, List.getElem_toArray, List.getElem_cons_succ, List.getElem_cons_zero])
            refine wpAnyH_ready (rs := [4]) (by kernel_rfl) (by simp) ?_
            refine (AllReadyH.cons rfl (fun K hK => ?_) AllReadyH.nil)
            go_simp
            refine hK.out _ _ ?_ (fun hHeld => ?_)
            · (try dsimp only); (first | exact HS0.out | exact HS6.out | exact HS7.out | exact HS9.out | exact HS10.out)
            clear hK K
            (try simp only [Act.put, List.setIfInBounds_toArray, List.set_cons_zero, List.set_cons_succ, List.getElem_toArray, List.getElem_cons_succ, List.getElem_cons_zero])
            refine wpAnyH_ready (rs := [8]) (by kernel_rfl) (by simp) ?_
            refine (AllReadyH.cons rfl (fun K hK => ?_) AllReadyH.nil)
            obtain ⟨vs, o1, o2, o3, o4, o5⟩ := HAP.out
            refine step_append_at rfl (.tmp 25) (.tmp 28) 33 rfl w0.heap.size 35 (.slice none 0 0) 1 24 Try.underlying33 rows_info rfl (by omega) (.slice B rs.length d) rs.length vs (by simp [Act.eval, Act.put]) o1 ⟨w6.heap.size, 0, none⟩ 1 1 [.slice A2 n c2] (by simp [Act.eval, Act.put]) rfl o2 o3 (by simp only [maxLen]; omega) (by omega) o4 ?_
            intro v9 w9 p1 p2 p3
            obtain ⟨⟨A9, c9, rfl⟩, q0, q1, q2, q3, q4⟩ := o5 v9 w9 p1 p2 p3
            have HS9 := Lib.hid (And.intro (HBL3.out w9 q0) (HBR3.out w9 q0))
            have HS10 := Lib.hid (And.intro ((World.cell?_of_block (Below.heap_setCell w9 ⟨gl, 2, none⟩ (.slice A9 (rs.length + 1) c9) bl HNE.out.1)).trans (HBL3.out w9 q0)) ((World.cell?_of_block (Below.heap_setCell w9 ⟨gl, 2, none⟩ (.slice A9 (rs.length + 1) c9) br HNE.out.2)).trans (HBR3.out w9 q0)))
            have H9 := Lib.hid (And.intro q3 q4)
            clear o1 o2 o3 o4 o5 p1 p2 p3 q3 q4 q0
            refine hK.out _ _ ?_ (fun hHeld => ?_)
            · (try dsimp only); (first | exact HS0.out | exact HS6.out | exact HS7.out | exact HS9.out | exact HS10.out)
            clear hK K
            (try simp only [Act.put, List.setIfInBounds_toArray, List.set_cons_zero, List.set_cons_succ, List.getElem_toArray, List.getElem_cons_succ, List.getElem_cons_zero])
            refine wpAnyH_take (i := 9) (v := ?_) rfl (by kernel_rfl) (by kernel_rfl) (by kernel_rfl) (fun _ _ _ h => h) (Or.inl ⟨by kernel_rfl, ?_⟩) (by assumption) ?_
            rotate_left
            · intro w hSw; (try dsimp only at hSw); go_simp <;> (try with_reducible rfl)
            (try simp only [Act.put, List.setIfInBounds_toArray, List.set_cons_zero, List.set_cons_succ, List.getElem_toArray, List.getElem_cons_succ, List.getElem_cons_zero])
            refine wpAnyH_take (i := 10) (v := ?_) rfl (by kernel_rfl) (by kernel_rfl) (by kernel_rfl) (fun _ _ _ h => h) (Or.inl ⟨by kernel_rfl, ?_⟩) (by assumption) ?_
            rotate_left
            · intro w hSw; (try dsimp only at hSw); go_simp <;> (try with_reducible rfl)
            (try simp only [Act.put, List.setIfInBounds_toArray, List.set_cons_zero, List.set_cons_succ, List.getElem_toArray, List.getElem_cons_succ, List.getElem_cons_zero])
            refine wpAnyH_ready (rs := [11]) (by kernel_rfl) (by simp) ?_
            refine (AllReadyH.cons rfl (fun K hK => ?_) AllReadyH.nil)
            go_simp
            refine hK.out _ _ ?_ (fun hHeld => ?_)
            · (try dsimp only); (first | exact HS0.out | exact HS6.out | exact HS7.out | exact HS9.out | exact HS10.out)
            clear hK K
            (try simp only [Act.put, List.setIfInBounds_toArray, List.set_cons_zero, List.set_cons_succ, List.getElem_toArray, List.getElem_cons_succ, List.getElem_cons_zero])
            refine wpAnyH_done (by kernel_rfl) ?_ _
            go_end0
            exact ⟨S', Q', _, _, .ok HH.out.1 HH.out.2 HA.out, H9.out.1.new (Below.refl _ _) fun k hk => .inl (.inl hk), HK3.out.trans ⟨fun k hk => H9.out.2.1 k (.inl hk), H9.out.2.2⟩⟩
      · by_cases k4 : k = 4
        · subst k4
          have e4 : mustE 4 = lossE := rfl
          have HM := Lib.hid (fun u => must_any 4 u)
          have HF := Lib.hid (HFIN.out (by decide))
          rw [e4] at HM HF
          clear hL3 hbr3 hbl3 HFIN k0 e4
          go_wp2_with (go_at_call 30; refine (HM.out _).mono ?_; rintro e w4 ⟨rfl, rfl⟩)
          exact ⟨rfl, HF.out⟩
        · have HM := Lib.hid (fun u => must_any k u)
          have HF := Lib.hid (HFIN.out k0)
          have hme : mustE k = refE k := by unfold mustE; rw [if_neg k0, if_neg k4]
          rw [hme] at HM HF
          clear hL3 hbr3 hbl3 HFIN k0 k4 hme
          go_wp2_with (go_at_call 30; refine (HM.out _).mono ?_; rintro e w4 ⟨rfl, rfl⟩)
          exact ⟨rfl, HF.out⟩
end
end Go.Proofs.Ytmcbmbcfgefocaa
