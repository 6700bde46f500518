/- The walk of DiskSeen. -/
import Derived.Test.YtldbnlmimjamnaaDo
import Derived.Test.YtldbnlmimjamnaaAct
import Derived.Deep.RegionHeld3
namespace Go.Proofs.Ytldbnlmimjamnaa
open Go.RowKit

section
variable {w0 w w' : World} {gd gw : Nat} {S S' : DS} {t : TypeId} {m : Nat} {V : Nat → Value}
/-- A block that is known beside the disk is none of the disk's. -/
theorem Held.poke (h : Held w0 w gd S fun u => u.rowIs gw t m V) (hg : w0.heap.size ≤ gw) (i : Nat) (v : Value) : Held w0 (w.setCell ⟨gw, i, none⟩ v) gd S fun u => u.rowIs gw t m fun j => if j = i then v else V j := by
  obtain ⟨F, Z, h1, h2, h3, h4, h5⟩ := h
  have hr : w.rowIs gw t m V := h5 w (fun _ _ => rfl) (Nat.le_refl _)
  have hF : ¬ F gw := fun hf => by
    have hu := h5 (w.setChan gw 0 #[] false 0 0 false) (fun k hk => by
      have : k ≠ gw := fun e => (h3 gw hf).2 (e ▸ hk)
      simp only [World.setChan]
      rw [Array.getElem?_setIfInBounds_ne (fun e => this e.symm)]) (by simp [World.setChan])
    obtain ⟨c, hc, _⟩ := hu
    rw [Go.Conc.heap_setChan _ _ _ _ _ _ _ _ hr.lt] at hc
    cases hc
  have hw : ∀ k, k ≠ gw → (w.setCell ⟨gw, i, none⟩ v).heap[k]? = w.heap[k]? := fun k hk => Below.heap_setCell _ _ _ _ hk
  refine ⟨F, fun k => k = gw, h1.keep (fun k hk => hw k (fun e => hF (e ▸ hk))) (by simp [World.setCell]), h2.setCell (p := ⟨gw, i, none⟩) hg v, fun k hk => ⟨(h3 k hk).1, fun e => hF (e ▸ hk)⟩, fun k hk => by subst hk; simpa [World.setCell] using hr.lt, fun u hu hs => (hr.set i v).of_block (hu gw rfl)⟩
theorem Held.with (h : Held w0 w gd S fun _ => True) (o : Obj) (hn : ∀ u : World, u.heap[w.heap.size]? = some o → u.rowIs w.heap.size t m V) : Held w0 (w.alloc o) gd S fun u => u.rowIs w.heap.size t m V :=
  (h.more (below_new w o) fun u hu _ => hn u ((hu w.heap.size (Nat.le_refl _) (by simp)).trans (heap_alloc_new w o))).imp fun _ h => h.2
end
/-- Behind i writes. -/
def SeenInv (i : Nat) (S : DS) (vb : Nat → Nat) : Prop := Free 8 i S ∧ (∀ j, j < 8 → vb j < 256 ∧ S.seen j = some fun _ => vb j)
theorem seen_step {i : Nat} {S : DS} {vb : Nat → Nat} (h : SeenInv i S vb) {k c : Nat} (hk : k < 8) (hc : c < 256) : SeenInv (i + 1) (S.wrote k fun _ => c) (upd vb k c) := by
  refine ⟨(free_step h.1 hk _).2, fun j hj => ?_⟩
  have e : (S.wrote k fun _ => c).seen j = if j = k then some (fun _ => c) else S.seen j := by
    show layT S.T (S.P ++ [(k, fun _ => c)]) j = _
    rw [layT_snoc]; rfl
  rw [e]
  by_cases hjk : j = k
  · subst hjk; rw [upd_same, if_pos rfl]; exact ⟨hc, rfl⟩
  · rw [upd_ne _ _ _ hjk, if_neg hjk]; exact h.2 j hj
theorem seen_flush {i : Nat} {S : DS} {vb : Nat → Nat} (h : SeenInv i S vb) : SeenInv i S.flushed vb :=
  ⟨⟨h.1.1, h.1.2.1, h.1.2.2.1, Nat.zero_le _⟩, fun j hj => h.2 j hj⟩
set_option maxHeartbeats 2000000 in
theorem diskSeen_walk (A : Option Addr) (n cp : Nat) (X : Nat → ActD) (w : World) (_hn : n ≤ 9223372036854775807) (hX : Acts w A n X) :
    Calls Try.prog 5 #[.slice A n cp] w fun e w' => e = .returned (.bool true) ∧ Below w.heap.size w w' := by
  have HX := Lib.hid hX
  clear hX
  have HNEW := Lib.hid (fun (w1 : World) (hb : Below w.heap.size w w1) => held_new (w0 := w) (w := w1) 8 (by omega) (by omega) hb)
  go_enter Try.func5, Try.ntmps5
  go_wp2_with (first
    | (go_at_call 9; with_reducible refine (awake_any _).mono ?_; rintro e w1 ⟨rfl, hb1⟩)
    | (go_at_call 10; refine (HNEW.out _ hb1).mono ?_; rintro e w2 ⟨gd, rfl, h0⟩))
  go_loopw [6] (fun v wr => ∃ (i : Nat) (S : DS) (vb : Nat → Nat), i ≤ 40 ∧ v = .int .i64 i ∧ SeenInv i S vb ∧ Held w wr gd S fun u => u.rowIs w2.heap.size 49 8 fun j => .int .u8 (vb j : Nat)) (fun v _ => 40 - (intOf v).toNat)
  case atStart =>
    exact ⟨0, DS.new 8, fun _ => 0, by omega, rfl, ⟨⟨rfl, rfl, rfl, Nat.le_refl _⟩, fun j _ => ⟨(by decide : (0 : Nat) < 256), rfl⟩⟩, h0.with _ fun u hu => ⟨_, hu, rfl, fun j hj => by
      rcases (by omega : j = 0 ∨ j = 1 ∨ j = 2 ∨ j = 3 ∨ j = 4 ∨ j = 5 ∨ j = 6 ∨ j = 7) with rfl | rfl | rfl | rfl | rfl | rfl | rfl | rfl <;> rfl⟩⟩
  case round =>
    obtain ⟨i, S, vb, hi, rfl, hinv, h4⟩ := hrel
    have HIV := Lib.hid hinv
    have HS2 := Lib.hid h0.bel.size
    clear hinv
    by_cases hlt : i < n ∧ i < 40
    · obtain ⟨hl1, hl2⟩ := hlt
      obtain ⟨ad, rfl, hact⟩ := (HX.out.below h4.bel) i hl1
      have HAT := Lib.hid (fun (u : World) (hb : Below w.heap.size w u) => Acts.at_ (HX.out.below hb) hl1)
      obtain ⟨act, hA⟩ : ∃ a, X i = a := ⟨_, rfl⟩
      rw [hA] at hact HAT
      clear hA
      obtain ⟨aK, xi, xc, xb, aA, an, ac, af⟩ := act
      obtain ⟨hb, _, x1, x2, x3, _, g0, g1, g2, _⟩ := hact
      have x1' : wr.cell? ⟨(ad.add (i * 5)).block, (ad.add (i * 5)).off + 1, none⟩ = some (.int .i64 xi) := x1
      have x2' : wr.cell? ⟨(ad.add (i * 5)).block, (ad.add (i * 5)).off + 2, none⟩ = some (.int .u8 (xc : Nat)) := x2
      have x3' : wr.cell? ⟨(ad.add (i * 5)).block, (ad.add (i * 5)).off + 3, none⟩ = some (.bool xb) := x3
      have hxc : xc < 256 := g2
      clear x1 x2 x3 g0 g1 g2
      by_cases hr : 0 ≤ xi ∧ xi < 8
      · obtain ⟨hr0, hr1⟩ := hr
        obtain ⟨k, rfl⟩ : ∃ k : Nat, xi = k := ⟨xi.toNat, by omega⟩
        have hk8 : k < 8 := by omega
        have d0 : decide ((k : Int) < 0) = false := by rw [decide_eq_false_iff_not]; omega
        have d1 : decide (7 < (k : Int)) = false := by rw [decide_eq_false_iff_not]; omega
        have h4d := h4.drew
        have HW := Lib.hid (show S.write (k : Int) (fun _ => xc) = (S.wrote k fun _ => xc, 0) from (free_step HIV.out.1 hk8 _).1)
        have HPL := Lib.hid (show S.P.length ≤ 1000000 from by have := HIV.out.1.2.2.2; omega)
        have HST := Lib.hid (seen_step HIV.out hk8 hxc)
        go_wp2
        go_region_with (first
          | (go_at_call 19; refine (h4d.rowI (xc : Int) (by omega) (by omega) (fun _ => xc) rfl).mono ?_; rintro e w3 ⟨a3, k3, rfl, h5⟩
             obtain ⟨hb3, _, y1, _, y3, _⟩ := HAT.out w3 h5.bel
             have y1' : w3.cell? ⟨(ad.add (i * 5)).block, (ad.add (i * 5)).off + 1, none⟩ = some (.int .i64 (k : Int)) := y1)
          | (go_at_call 18; refine (h5.writeE (S' := S.wrote k fun _ => xc) k 0 HW.out HPL.out).mono ?_; rintro e w4 ⟨rfl, h6⟩))
        all_goals
          simp only [Act.put, List.setIfInBounds_toArray, List.set_cons_zero, List.set_cons_succ, List.getElem_toArray, List.getElem_cons_succ, List.getElem_cons_zero]
          have hr6 := h6.sat
          have z1 := hr6.cell (i := k) hk8
          have z2 := hr6.frozen k
          obtain ⟨hb6, _, v1, v2, v3, _⟩ := HAT.out w4 h6.bel
          have v1' : w4.cell? ⟨(ad.add (i * 5)).block, (ad.add (i * 5)).off + 1, none⟩ = some (.int .i64 (k : Int)) := v1
          have v2' : w4.cell? ⟨(ad.add (i * 5)).block, (ad.add (i * 5)).off + 2, none⟩ = some (.int .u8 (xc : Nat)) := v2
          have v3' : w4.cell? ⟨(ad.add (i * 5)).block, (ad.add (i * 5)).off + 3, none⟩ = some (.bool xb) := v3
          clear v1 v2 v3 hr6
          go_wp2
          go_region
        all_goals
          have h7 : Held w (w4.setCell ⟨w2.heap.size, k, none⟩ (.int .u8 (xc : Nat))).drew gd (S.wrote k fun _ => xc) fun u => u.rowIs w2.heap.size 49 8 fun j => .int .u8 (upd vb k xc j : Nat) :=
            ((h6.poke HS2.out k (.int .u8 (xc : Nat))).drew).imp fun u hu => hu.congr fun j hj => by
              by_cases hjk : j = k
              · subst hjk; rw [if_pos rfl, upd_same]
              · rw [if_neg hjk, upd_ne _ _ _ hjk]
          have h3 := HAT.out _ h7.bel
          generalize (w4.setCell ⟨w2.heap.size, k, none⟩ (.int .u8 (xc : Nat))).drew = w5 at *
          obtain ⟨hb7, _, _, _, v3, _⟩ := h3
          have v3' : w5.cell? ⟨(ad.add (i * 5)).block, (ad.add (i * 5)).off + 3, none⟩ = some (.bool xb) := v3
          clear v3 z1 z2
          cases xb
          · go_wp2
            go_roundw
            case rel => exact ⟨i + 1, _, _, by omega, by go_num, HST.out, h7⟩
            case measure => simp [intOf]; omega
          · have HFL := Lib.hid (show (S.wrote k fun _ => xc).flush = ((S.wrote k fun _ => xc).flushed, 0) from flush_free HST.out.1.2.1 HST.out.1.2.2.1)
            go_wp2_with (go_at_call 20; with_reducible refine (h7.flushE (S' := (S.wrote k fun _ => xc).flushed) 0 HFL.out).mono ?_; rintro e w6 ⟨rfl, h8⟩)
            go_roundw
            case rel => exact ⟨i + 1, _, _, by omega, by go_num, seen_flush HST.out, h8⟩
            case measure => simp [intOf]; omega
      · have HIN := Lib.hid (show SeenInv (i + 1) S vb from ⟨⟨HIV.out.1.1, HIV.out.1.2.1, HIV.out.1.2.2.1, Nat.le_succ_of_le HIV.out.1.2.2.2⟩, HIV.out.2⟩)
        by_cases hr0 : xi < 0
        · clear hr
          go_wp2
          go_roundw
          case rel => exact ⟨i + 1, _, _, by omega, by go_num, HIN.out, h4⟩
          case measure => simp [intOf]; omega
        · have d0 : decide (xi < 0) = false := by rw [decide_eq_false_iff_not]; omega
          have d1 : 7 < xi := by omega
          clear hr
          go_wp2
          go_roundw
          case rel => exact ⟨i + 1, _, _, by omega, by go_num, HIN.out, h4⟩
          case measure => simp [intOf]; omega
    · have hq : (¬ i < n) ∨ (i < n ∧ ¬ i < 40) := by omega
      clear hlt
      rcases hq with hq | ⟨hq, hq'⟩
      all_goals
        go_wp2
        go_loopw [7] (fun v wq => ∃ j : Nat, j ≤ 8 ∧ v = .int .i64 j ∧ Held w wq gd S fun u => u.rowIs w2.heap.size 49 8 fun j => .int .u8 (vb j : Nat)) (fun v _ => 8 - (intOf v).toNat)
        case atStart => exact ⟨0, by omega, rfl, h4⟩
        case round =>
          obtain ⟨j, hj, rfl, h5⟩ := hrel
          by_cases hj8 : j < 8
          · have hv := HIV.out.2 j hj8
            have R1 := Lib.hid (show S.read (j : Int) = (some fun _ => vb j, 0) from read_some HIV.out.1.2.1 (by rw [HIV.out.1.1]; exact hj8) hv.2)
            have hv256 := hv.1
            clear hv
            go_wp2_with (first
              | (go_at_call 23; with_reducible refine (h5.readS j R1.out).mono ?_; rintro e w6 ⟨a6, k6, rfl, h6⟩
                 have z1 := h6.sat.1.cell (i := j) hj8)
              | (go_at_call 19; with_reducible refine (h6.rowI (vb j : Int) (by omega) (by omega) (fun _ => vb j) rfl).mono ?_; rintro e w7 ⟨a7, k7, rfl, h7⟩)
              | (go_at_call 22; with_reducible refine (h7.rows (s := some fun _ => vb j) (g := fun _ => vb j) (fun _ h => h.1.2) (fun _ h => h.2) (SameO.refl _)).mono ?_; rintro e w8 ⟨rfl, h8⟩))
            go_roundw
            case rel => exact ⟨j + 1, by omega, by go_num, h8.imp fun _ h => h.1.1⟩
            case measure => simp [intOf]; omega
          · obtain rfl : j = 8 := by omega
            go_wp2
            go_ret
            exact ⟨rfl, h5.bel⟩
end Go.Proofs.Ytldbnlmimjamnaa
