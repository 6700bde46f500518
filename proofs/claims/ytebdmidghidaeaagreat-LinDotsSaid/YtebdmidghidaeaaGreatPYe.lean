/- Contracts of lin: pairs, Dot, AddTimes. -/
import Derived.Test.YtebdmidghidaeaaGreatPYd
namespace Go.Proofs.YtebdmidghidaeaaGreat
open Go.RowKit
attribute [local go_sem ↓] Go.wp_at_zero Go.wp_at_succ
set_option linter.unusedVariables false

/-- What pairs' loop carries. -/
def PrI (w wr : World) (g0 n K : Nat) (H : Nat → Rat) (i : Nat) (X : Nat → RatD) : Prop :=
  OwnR wr w.heap.size (.slice (some ⟨g0, 0, none⟩) n n) n X ∧ (∀ j, j < i → EQ true K wr (X j).val (H j)) ∧ Below w.heap.size w wr
set_option maxRecDepth 100000 in
set_option maxHeartbeats 4000000 in
theorem pairs_any {fn : FuncId} {cap : Array Value} {p p' : Bool} {k l K n : Nat} {w : World} {va vb : Value} {f g : Nat → Rat} {G : Rat → Rat → Rat}
    (hcf : ∀ args u, (callFunc fn args).run Tryz.prog u = .ok (.enter fn args) u)
    (hG : ∀ w' v v' x y, Below w.heap.size w w' → LimQ k w' v x → LimQ l w' v' y → Calls Tryz.prog fn (#[v, v'] ++ cap) w' fun e w'' => RatPost w' w'' e (G x y))
    (ha : RowQ p k w va n f) (hb : RowQ p' l w vb n g) (hK : ∀ i, i < n → BQ K (G (f i) (g i))) :
    Calls Tryz.prog 31 #[va, vb, .func (.func fn) #[] cap] w fun e w' => ∃ v, e = .returned (.tuple #[v, .bool true]) ∧ RowT true K w' v n (fun i => G (f i) (g i)) ∧ Below w.heap.size w w' := by
  obtain ⟨A, ca, rfl, hca, hn⟩ := ha.len
  obtain ⟨B, cb, rfl, hcb, _⟩ := hb.len
  have HA := Lib.hid ha
  have HB := Lib.hid hb
  have HG := Lib.hid hG
  have HK := Lib.hid hK
  have HN := Lib.hid hn
  clear ha hb hG hK hca hcb hn
  go_enter Tryz.func31, Tryz.ntmps31
  go_wp2_with (at_make; refine wpList_make_rats rfl rfl _ _ rfl w.heap.size _ _ _ _ n rfl rfl rfl rfl HN.out (Nat.le_refl _) ?_; intro w1 hown hbw hsw)
  have HI0 : Hid (PrI w w1 w.heap.size n K (fun i => G (f i) (g i)) 0 (fun _ => ratZ)) := ⟨hown, fun j hj => absurd hj (by omega), hbw⟩
  clear hown hbw hsw
  go_wp2
  go_loopw [21] (fun v21 wr => ∃ (i : Nat) (X : Nat → RatD), v21 = .int .i64 (i : Nat) ∧ i ≤ n ∧ PrI w wr w.heap.size n K (fun i => G (f i) (g i)) i X) (fun v21 _ => n - (intOf v21).toNat)
  case atStart => exact ⟨0, _, rfl, Nat.zero_le _, HI0.out⟩
  case round =>
    obtain ⟨i, X, rfl, hi, hinv⟩ := hrel
    have HI := Lib.hid hinv
    clear hinv HI0
    by_cases hlt : i < n
    · have hi0 : (0 : Int) ≤ (i : Int) := by omega
      have hik : (i : Int) < (n : Int) := by omega
      have hAw := HA.out.below HI.out.2.2
      have hBw := HB.out.below HI.out.2.2
      obtain ⟨ad, c1, ⟨b, A1, n1, c2, b', A1', n1', c1'⟩, e1, _, _, ⟨a0, a1, a2, a3, a4⟩, hEa⟩ := hAw.at_ hlt
      simp only [Value.slice.injEq] at e1
      obtain ⟨rfl, _, rfl⟩ := e1
      obtain ⟨bd, c3, ⟨q, Q1, m1, d2, q', Q1', m1', d1'⟩, e1, _, _, ⟨b0, b1, b2, b3, b4⟩, hEb⟩ := hBw.at_ hlt
      simp only [Value.slice.injEq] at e1
      obtain ⟨rfl, _, rfl⟩ := e1
      have hea := Lib.hid hEa.2
      have heb := Lib.hid hEb.2
      clear hEa hEb hAw hBw
      go_wp2
      generalize hW : wr.alloc (.cells #[.bool b, .slice A1 n1 c2, .bool b', .slice A1' n1' c1'] 27) = w2
      have hbw2 : Below wr.heap.size wr w2 := by rw [← hW]; exact below_new _ _
      have K2 := Lib.hid (show Blk w2 wr.heap.size 27 #[.bool b, .slice A1 n1 c2, .bool b', .slice A1' n1' c1'] from by rw [← hW]; exact Blk.new _ _ rfl _ _)
      have b0x := Nat.lt_of_lt_of_le b0 hbw2.size
      have b1x := (hbw2.cell (p := bd.add (i * 4)) b0).trans b1
      have b2x := (hbw2.cell (p := ⟨(bd.add (i * 4)).block, (bd.add (i * 4)).off + 1, none⟩) b0).trans b2
      have b3x := (hbw2.cell (p := ⟨(bd.add (i * 4)).block, (bd.add (i * 4)).off + 2, none⟩) b0).trans b3
      have b4x := (hbw2.cell (p := ⟨(bd.add (i * 4)).block, (bd.add (i * 4)).off + 3, none⟩) b0).trans b4
      have hea2 := Lib.hid (hea.out.below hbw2)
      have heb2 := Lib.hid (heb.out.below hbw2)
      have HO2 := Lib.hid (HI.out.1.below hbw2)
      have HX2 := Lib.hid (fun j (hj : j < i) => (HI.out.2.1 j hj).below hbw2)
      have HB2 := Lib.hid (below_trans HI.out.2.2 hbw2)
      have HGR := Lib.hid (show w.heap.size < wr.heap.size from (OwnN.blk HI.out.1).2.2.elim fun cur h => Blk.lt h)
      clear hW hbw2 a0 a1 a2 a3 a4 b0 b1 b2 b3 b4 hea heb HI
      obtain ⟨p0, p1, p2, p3, pl⟩ := K2.out.use4
      have tok0 : True := trivial
      have hgw : w.heap.size < w2.heap.size := (OwnN.blk HO2.out).2.2.elim fun cur h => Blk.lt h
      have hgr : w.heap.size < wr.heap.size := HGR.out
      have hne : w.heap.size ≠ (bd.add (i * 4)).block := by
        obtain ⟨bd', _, _, e1, _, _, h, _⟩ := HB.out.at_ hlt
        simp only [Value.slice.injEq, Option.some.injEq] at e1
        obtain ⟨rfl, _⟩ := e1
        have := h.1
        omega
      have hne2 : w.heap.size ≠ wr.heap.size := by omega
      go_region_held3 (fun w' => w'.cell? ⟨wr.heap.size, 0, none⟩ = some (.bool b) ∧ w'.cell? ⟨wr.heap.size, 1, none⟩ = some (.slice A1 n1 c2) ∧ w'.cell? ⟨wr.heap.size, 2, none⟩ = some (.bool b') ∧ w'.cell? ⟨wr.heap.size, 3, none⟩ = some (.slice A1' n1' c1') ∧ w'.cell? (bd.add (i * 4)) = some (.bool q) ∧ w'.cell? ⟨(bd.add (i * 4)).block, (bd.add (i * 4)).off + 1, none⟩ = some (.slice Q1 m1 d2) ∧ w'.cell? ⟨(bd.add (i * 4)).block, (bd.add (i * 4)).off + 2, none⟩ = some (.bool q') ∧ w'.cell? ⟨(bd.add (i * 4)).block, (bd.add (i * 4)).off + 3, none⟩ = some (.slice Q1' m1' d1')) (first | (refine ⟨?_, ?_, ?_, ?_, ?_, ?_, ?_, ?_⟩ <;> (first | with_reducible assumption | ((with_reducible refine Eq.trans (cell_drew _ _) ?_); with_reducible assumption) | ((repeat rw [World.cell?_setCell_far _ _ _ _ (by first | exact hne | exact hne2)]); with_reducible assumption) | go_keep)) | go_keep)
        (first
          | (have _t := tok0; clear _t tok0; ((with_reducible refine Calls.mono (HG.out w2.drew _ _ _ _ HB2.out.drew hea2.out.drew_ heb2.out.drew_) ?_)); rintro e w3 ⟨v, rfl, h, hb⟩; obtain ⟨⟨z, Z1, z2, z3, z', Z1', z2', z3'⟩, rfl⟩ := h.parts; have hBw := (show Below w2.heap.size w2 w3 from bundrew hb); have K3 := K2.out.below hBw; obtain ⟨y0, y1, y2, y3, yl⟩ := K3.use4; have b1y := (hBw.cell (p := bd.add (i * 4)) b0x).trans b1x; have b2y := (hBw.cell (p := ⟨(bd.add (i * 4)).block, (bd.add (i * 4)).off + 1, none⟩) b0x).trans b2x; have b3y := (hBw.cell (p := ⟨(bd.add (i * 4)).block, (bd.add (i * 4)).off + 2, none⟩) b0x).trans b3x; have b4y := (hBw.cell (p := ⟨(bd.add (i * 4)).block, (bd.add (i * 4)).off + 3, none⟩) b0x).trans b4x;
             have HO3 := Lib.hid (HO2.out.below hBw); have HX3 := Lib.hid (fun j (hj : j < i) => (HX2.out j hj).below hBw); have HB3 := Lib.hid (below_trans HB2.out hBw); have HR := Lib.hid h; clear hBw h hb HO2 HX2 HB2 hea2 heb2 b1x b2x b3x b4x p0 p1 p2 p3 pl K3; obtain ⟨s0, s1, s2, s3, s4, s5, s6, s7, s8⟩ := HO3.out.spot hlt))
      obtain ⟨W, hW⟩ : ∃ W, W = ((((w3.setCell ⟨w.heap.size, i * 4, none⟩ (.bool z)).setCell ⟨w.heap.size, i * 4 + 1, none⟩ (.slice Z1 z2 z3)).setCell ⟨w.heap.size, i * 4 + 2, none⟩ (.bool z')).setCell ⟨w.heap.size, i * 4 + 3, none⟩ (.slice Z1' z2' z3')) := ⟨_, rfl⟩
      rw [← hW]
      obtain ⟨g1, g2, g3⟩ := OwnR.set4 HO3.out hlt ⟨z, Z1, z2, z3, z', Z1', z2', z3'⟩ hW
      have HINV : Hid (PrI w W w.heap.size n K (fun i => G (f i) (g i)) (i + 1) (updR X i ⟨z, Z1, z2, z3, z', Z1', z2', z3'⟩)) := ⟨g1, fun j hj => by
        by_cases hji : j = i
        · subst hji; rw [updR_at]; exact (EQ.of HR.out (HK.out j hlt)).kp g2.keep
        · rw [updR_ne _ _ hji]; exact (HX3.out j (by omega)).kp g2.keep, HB3.out.trans g2.below⟩
      clear hW g1 g2 g3 HO3 HX3 HB3 HR
      go_wp2
      go_roundw
      case rel => exact ⟨i + 1, _, by go_num, by omega, HINV.out⟩
      case measure => simp [intOf]; omega
    · obtain rfl : i = n := by omega
      go_wp2
      go_ret2
      exact ⟨_, rfl, OwnR.rowT HI.out.1 HN.out HI.out.2.1, HI.out.2.2⟩
end Go.Proofs.YtebdmidghidaeaaGreat
