/- Contract: the document's lay. -/
import Derived.Test.YteeomidlnijfbaaPEd
import Derived.BigRegion
namespace Go.Proofs.Yteeomidlnijfbaa
open Go.RowKit

/-- What is there behind the first writes. -/
def layA (all : Bool) (T : Nat → Option (Nat → Nat)) (P : List (Nat × (Nat → Nat))) (cs : List Nat) : Nat → Option (Nat → Nat) := if all then layT T P else upT T P cs
theorem layA_snoc (all : Bool) (T : Nat → Option (Nat → Nat)) (P : List (Nat × (Nat → Nat))) (p : Nat × (Nat → Nat)) (cs : List Nat) :
    layA all T (P ++ [p]) cs = if all = true then setT (layA all T P cs) p.1 (some p.2) else upOne (layA all T P cs) p ((cs.drop P.length).headD 0) := by
  cases all
  · show upT T (P ++ [p]) cs = _
    rw [upT_snoc]; rfl
  · show layT T (P ++ [p]) = _
    rw [layT_app]; rfl
theorem head_range (n k : Nat) (f : Nat → Nat) : ((((List.range n).map f).drop k).headD 0) = if k < n then f k else 0 := by
  rw [List.headD_eq_head?_getD, List.head?_drop, List.getElem?_map]
  by_cases h : k < n
  · simp [h]
  · simp [h]
def LayRel (G : Nat → Prop) (g gB cB gX : Nat) (vA vN : Value) (all : Bool) (S : DS) (cs : List Nat) (w wr : World) (k : Nat) (V : Nat → Value) (Y : Nat → Bool) : Prop :=
  k ≤ S.P.length ∧ wr.rowIs gB 35 cB V ∧ (wr.rowIs gX 4 S.n fun i => .bool (Y i)) ∧ (∀ i, i < S.n → RefT (Rr G g gB gX vA vN) wr (V i) (Y i) (layA all S.T (S.P.take k) cs i)) ∧ Only (fun j => j = gB ∨ j = gX) w wr
section
variable {G : Nat → Prop} {w w' : World} {g gB cB gX : Nat} {vA vN : Value} {ys : List Value} {VB : Nat → Value} {X : Nat → Bool} {stop begun stop' begun' : Int} {t t' : Nat} {S S' : DS}
theorem LayRel.next {all : Bool} {cs : List Nat} {wr w4 : World} {k : Nat} {V V' : Nat → Value} {Y Y' : Nat → Bool} (h : LayRel G g gB cB gX vA vN all S cs w wr k V Y) {p : Nat × (Nat → Nat)} (hp : S.P[k]? = some p) (ho : Only (fun j => j = gB ∨ j = gX) wr w4)
    (hB : w4.rowIs gB 35 cB V') (hX : w4.rowIs gX 4 S.n fun i => .bool (Y' i))
    (hT : ∀ i, i < S.n → RefT (Rr G g gB gX vA vN) w4 (V' i) (Y' i) ((if all = true then setT (layA all S.T (S.P.take k) cs) p.1 (some p.2) else upOne (layA all S.T (S.P.take k) cs) p ((cs.drop k).headD 0)) i)) : LayRel G g gB cB gX vA vN all S cs w w4 (k + 1) V' Y' := by
  have hk : k < S.P.length := (List.getElem?_eq_some_iff.1 hp).1
  have e : S.P.take (k + 1) = S.P.take k ++ [p] := by rw [List.take_add_one, hp]; rfl
  refine ⟨hk, hB, hX, fun i hi => ?_, h.2.2.2.2.trans ho⟩
  rw [e, layA_snoc, List.length_take, Nat.min_eq_left (by omega)]
  exact hT i hi
theorem LayRel.old {all : Bool} {cs : List Nat} {wr w4 : World} {k : Nat} {V : Nat → Value} {Y : Nat → Bool} (h : LayRel G g gB cB gX vA vN all S cs w wr k V Y) (ho : Only (fun j => j = gB ∨ j = gX) wr w4) {i : Nat} (hi : i < S.n) :
    RefT (Rr G g gB gX vA vN) w4 (V i) (Y i) (layA all S.T (S.P.take k) cs i) :=
  (h.2.2.2.1 i hi).keep (fun j hj hl => ho.block j hl (by rintro (e | e); exact hj.2.2.1 e; exact hj.2.2.2.1 e)) fun _ hj _ => hj
theorem RefT.torn {R : Nat → Prop} {w : World} {v : Value} {b : Bool} {s : Option (Nat → Nat)} (h : RefT R w v b s) : RefT R w v true none := by
  cases s with
  | none => exact ⟨rfl, h.2⟩
  | some f => exact ⟨rfl, f, h.2⟩
theorem lay_fin {all : Bool} {cs : List Nat} {wr w6 : World} {k : Nat} {V : Nat → Value} {Y : Nat → Bool} (hd : Rk G w g gB cB gX vA vN ys VB X stop begun t S) (h : LayRel G g gB cB gX vA vN all S cs w wr k V Y) (hk : k = S.P.length) (ho : Only (· = g) wr w6)
    (hbox : w6.rowIs g 91 7 (dv7 (.slice (some ⟨gB, 0, none⟩) S.n cB) (.slice (some ⟨gX, 0, none⟩) S.n S.n) (.slice none 0 0) (.slice none 0 0) (.bool S.gone) (.int .i64 stop) (.int .i64 begun))) :
    Rk G w6 g gB cB gX (.slice none 0 0) (.slice none 0 0) [] V Y stop begun t { S with T := layA all S.T S.P cs, P := [] } ∧ Only (fun j => j = g ∨ j = gB ∨ j = gX) w w6 := by
  subst hk
  have hT := h.2.2.2.1
  rw [List.take_of_length_le (Nat.le_refl _)] at hT
  refine ⟨?_, (h.2.2.2.2.mono (fun j e => .inr e)).trans (ho.mono fun j e => .inl e)⟩
  exact {
    box := hbox
    rB := ho.rowIs h.2.1 (fun e => hd.e1.1 e.symm)
    rX := ho.rowIs h.2.2.1 (fun e => hd.e1.2.1 e.symm)
    oA := World.ownsRow_nil _ _ _ _
    oN := World.ownsRow_nil _ _ _ _
    hT := fun i hi => (hT i hi).keep (fun j hj hl => ho.block j hl hj.2.1) (fun j hj _ => ⟨hj.1, hj.2.1, hj.2.2.1, hj.2.2.2.1, by simp [Value.ownBlock], by simp [Value.ownBlock]⟩)
    hP := fun k p hp => by simp at hp
    n1 := hd.n1
    n2 := hd.n2
    nB := hd.nB
    pl := hd.pl
    bg := hd.bg
    sp := hd.sp
    e1 := hd.e1
    pA := fun k hk => by simp [Value.ownBlock] at hk
    pN := fun k hk => by simp [Value.ownBlock] at hk
    gg := hd.gg
    lt := fun k hk => Nat.lt_of_lt_of_le (hd.lt k hk) (Nat.le_trans h.2.2.2.2.size ho.size) }
set_option maxRecDepth 20000 in
set_option maxHeartbeats 4000000 in
theorem lay_any (h : Rk G w g gB cB gX vA vN ys VB X stop begun t S) (hP : S.P.length ≤ 1000000) (all : Bool) (C : Option Addr) (n c : Nat) (f : Nat → Nat) (hr : Rd .u8 w C n f) (hf : ∀ j, j < n → f j < 256) (hC : ∀ ad, C = some ad → 0 < n → ad.block ≠ gB ∧ ad.block ≠ gX) :
    Calls Try.prog 56 #[.pointer (some ⟨g, 0, none⟩), .slice C n c, .bool all] w fun e w' => e = .returned (.tuple #[]) ∧
      ∃ V Y, Rk G w' g gB cB gX (.slice none 0 0) (.slice none 0 0) [] V Y stop begun t { S with T := layA all S.T S.P ((List.range n).map f), P := [] } ∧ Only (fun j => j = g ∨ j = gB ∨ j = gX) w w' := by
  obtain ⟨aA, cA, rfl⟩ := own_shape h.oA
  obtain ⟨aN, cN, rfl⟩ := own_shape h.oN
  have HH := Lib.hid h
  have HR := Lib.hid hr
  have HF := Lib.hid hf
  have HC := Lib.hid hC
  obtain ⟨L, hL⟩ : ∃ L, L = S.P.length := ⟨_, rfl⟩
  have HL := Lib.hid hL
  rw [← hL] at hP
  clear h hr hf hC
  go_enter Try.func56, Try.ntmps56
  go_wp2
  go_loopw [6] (fun v wr => ∃ (k : Nat) (V : Nat → Value) (Y : Nat → Bool), v = .int .i64 k ∧ LayRel G g gB cB gX (.slice aA S.P.length cA) (.slice aN S.P.length cN) all S ((List.range n).map f) w wr k V Y) (fun v _ => L - (intOf v).toNat)
  case atStart => exact ⟨0, VB, X, rfl, Nat.zero_le _, HH.out.rB, HH.out.rX, (by have := HH.out.hT; cases all <;> exact this), Only.refl⟩
  case round =>
    obtain ⟨k, V, Y, rfl, hrel⟩ := hrel
    have HREL := Lib.hid hrel
    have hkL : k ≤ L := by rw [HL.out]; exact hrel.1
    have hbr : wr.rowIs g _ 7 _ := HH.out.box.of_block (hrel.2.2.2.2.block g (HH.out.lt g HH.out.gg.1) (by rintro (e | e); exact HH.out.e1.1 e; exact HH.out.e1.2.1 e))
    have HBR := Lib.hid hbr
    obtain ⟨q0, q1, q2, q3, q4, q5, q6⟩ := dvr7 hbr
    rw [← HL.out] at q2 q3
    clear hrel hbr hL
    by_cases hlt : k < L
    · obtain ⟨⟨i, fp⟩, hp⟩ : ∃ p, S.P[k]? = some p := ⟨_, List.getElem?_eq_getElem (by rw [← HL.out]; exact hlt)⟩
      have HP := Lib.hid hp
      obtain ⟨hpn, v, hv, hsec⟩ := HH.out.hP k _ hp
      obtain ⟨gA, kA, ea⟩ := own_some HH.out.oA (by rw [← HL.out]; omega)
      obtain ⟨gN, kN, en⟩ := own_some HH.out.oN (by rw [← HL.out]; omega)
      injection ea with ea1 ea2 ea3
      injection en with en1 en2 en3
      subst ea1 ea3 en1 en3
      have HA := Lib.hid (HH.out.pA gA rfl)
      have HN := Lib.hid (HH.out.pN gN rfl)
      have y1 := World.ownsRow.cellAt (own_keep (w' := wr) HH.out.oA (fun j hj => by
        injection hj with hj
        have hj' : gA = j := hj
        subst hj'
        exact HREL.out.2.2.2.2.block gA (HH.out.lt gA HA.out.2.2.2.1) (by rintro (e | e); exact HA.out.2.1 e; exact HA.out.2.2.1 e))) k (by rw [← HL.out]; omega)
      have y2 := World.ownsRow.cellAt (own_keep (w' := wr) HH.out.oN (fun j hj => by
        injection hj with hj
        have hj' : gN = j := hj
        subst hj'
        exact HREL.out.2.2.2.2.block gN (HH.out.lt gN HN.out.2.2.2) (by rintro (e | e); exact HN.out.2.1 e; exact HN.out.2.2.1 e))) k (by rw [← HL.out]; omega)
      rw [show (PendI S.P)[k]? = some (.int .i64 (i : Nat)) from by unfold PendI; rw [List.getElem?_map, hp]; rfl] at y1
      rw [hv] at y2
      obtain ⟨va, vn, vc, rfl⟩ := SecO.form (s := some fp) hsec
      have HSC := Lib.hid (show Sec (Rr G g gB gX (.slice (some ⟨gA, 0, none⟩) S.P.length cA) (.slice (some ⟨gN, 0, none⟩) S.P.length cN)) w (.slice va vn vc) fp from hsec)
      have hin : i < S.n := hpn
      have hnB := HH.out.nB
      have x1 := HREL.out.2.1.cell (i := i) (by omega)
      have x2 := HREL.out.2.1.frozen i
      have x3 := HREL.out.2.2.1.cell (i := i) hin
      have x4 := HREL.out.2.2.1.frozen i
      have k0 : (0 : Int) ≤ (k : Int) := by omega
      have k1 : (k : Int) < (L : Int) := by omega
      have HNE := Lib.hid HH.out.e1
      have n1 : g ≠ gB := HH.out.e1.1
      have n2 : g ≠ gX := HH.out.e1.2.1
      have n3 : gB ≠ gX := HH.out.e1.2.2
      have n4 : gA ≠ gB := HA.out.2.1
      have n5 : gA ≠ gX := HA.out.2.2.1
      have n6 : gN ≠ gB := HN.out.2.1
      have n7 : gN ≠ gX := HN.out.2.2.1
      have HQ := Lib.hid (head_range n k f)
      clear hp hv hsec ea2 en2 hpn
      cases all
      case false =>
        by_cases hkn : k < n
        · obtain ⟨ad, rfl, hc⟩ := HR.out k hkn
          have hfk := HF.out k hkn
          have hcr : wr.cell? (ad.add k) = some (.int .u8 (f k : Nat)) := (World.cell?_of_block (w := w) (HREL.out.2.2.2.2.block _ (block_lt_of_cell hc) (by
            have := HC.out ad rfl (by omega)
            rw [add_block]
            rintro (e | e)
            · exact this.1 e
            · exact this.2 e))).trans hc
          rw [if_pos hkn] at HQ
          generalize f k = fk at *
          have hq3 : fk % 3 = 0 ∨ fk % 3 = 1 ∨ fk % 3 = 2 := by omega
          clear hc
          rcases hq3 with hq | hq | hq
          · have hm : (fk : Int) % 3 = 0 := by omega
            have HQ3 := Lib.hid hq
            clear hq
            go_wp2
            go_roundw
            case rel => exact ⟨k + 1, _, _, by go_num, HREL.out.next HP.out Only.refl HREL.out.2.1 HREL.out.2.2.1 (fun j hj => by
              rw [HQ.out]
              simp only [Bool.false_eq_true, reduceIte, upOne, HQ3.out]
              exact HREL.out.old Only.refl hj)⟩
            case measure => simp [intOf]; omega
          · have hm : (fk : Int) % 3 = 1 := by omega
            have HQ3 := Lib.hid hq
            clear hq
            go_wp2
            go_region
            all_goals
              have hrb := (HREL.out.2.1.set i (.slice va vn vc)).drew
              have hrx := (HREL.out.2.2.1.setOther (a := ⟨gB, i, none⟩) (fun e => n3 e.symm) (.slice va vn vc)).drew
              have hbb := (HBR.out.setOther (a := ⟨gB, i, none⟩) n1 (.slice va vn vc)).drew
              have hoo := (Only.setCell (F := fun j => j = gB ∨ j = gX) (Only.refl (w := wr)) (a := ⟨gB, i, none⟩) (.inl (.inl rfl)) (.slice va vn vc)).drew
              have hya : (wr.setCell ⟨gB, i, none⟩ (.slice va vn vc)).drew.cell? ⟨gA, k, none⟩ = some (.int .i64 (i : Nat)) := (World.cell?_of_block (w := wr) (Below.heap_setCell _ _ _ _ n4)).trans y1
              generalize (wr.setCell ⟨gB, i, none⟩ (.slice va vn vc)).drew = w4 at *
              have HRB := Lib.hid hrb
              have HRX := Lib.hid hrx
              have HOO := Lib.hid hoo
              obtain ⟨p0, p1, p2, p3, p4, p5, p6⟩ := dvr7 hbb
              rw [← HL.out] at p2 p3
              have x5 := hrx.cell (i := i) hin
              have x6 := hrx.frozen i
              clear hrb hrx hbb hoo y1 y2 x1 x2 x3 x4 q0 q1 q2 q3 q4 q5 q6
              go_wp2
              go_region
              all_goals
                have HRB2 := Lib.hid ((HRB.out.setOther (a := ⟨gX, i, none⟩) n3 (.bool false)).drew)
                have HRX2 := Lib.hid (((HRX.out.set i (.bool false)).drew).congr (g := fun j => .bool (if j = i then false else Y j)) (fun j _ => by
                  by_cases e : j = i
                  · rw [if_pos e, if_pos e]
                  · rw [if_neg e, if_neg e]))
                have HO2 := Lib.hid ((HOO.out.setCell (a := ⟨gX, i, none⟩) (.inl (.inr rfl)) (.bool false)).drew)
                go_wp2
                go_roundw
                case rel => exact ⟨k + 1, _, _, by go_num, HREL.out.next HP.out HO2.out HRB2.out HRX2.out (fun j hj => by
                  rw [HQ.out]
                  simp only [Bool.false_eq_true, reduceIte, upOne, HQ3.out, setT]
                  by_cases hji : j = i
                  · rw [if_pos hji, if_pos hji, if_pos hji]
                    exact ⟨rfl, (HSC.out.keep (fun y hy hl => HREL.out.2.2.2.2.block y hl (by rintro (e | e); exact hy.2.2.1 e; exact hy.2.2.2.1 e)) (fun _ hy _ => hy)).keep (fun y hy hl => HO2.out.block y hl (by rintro (e | e); exact hy.2.2.1 e; exact hy.2.2.2.1 e)) (fun _ hy _ => hy)⟩
                  · rw [if_neg hji, if_neg hji, if_neg hji]
                    exact HREL.out.old HO2.out hj)⟩
                case measure => simp [intOf]; omega
          · have hm : (fk : Int) % 3 = 2 := by omega
            have HQ3 := Lib.hid hq
            clear hq
            go_wp2
            go_region
            all_goals
              have HRB2 := Lib.hid ((HREL.out.2.1.setOther (a := ⟨gX, i, none⟩) n3 (.bool true)).drew)
              have HRX2 := Lib.hid (((HREL.out.2.2.1.set i (.bool true)).drew).congr (g := fun j => .bool (if j = i then true else Y j)) (fun j _ => by
                by_cases e : j = i
                · rw [if_pos e, if_pos e]
                · rw [if_neg e, if_neg e]))
              have HO2 := Lib.hid ((Only.setCell (F := fun j => j = gB ∨ j = gX) (Only.refl (w := wr)) (a := ⟨gX, i, none⟩) (.inl (.inr rfl)) (.bool true)).drew)
              go_wp2
              go_roundw
              case rel => exact ⟨k + 1, _, _, by go_num, HREL.out.next HP.out HO2.out HRB2.out HRX2.out (fun j hj => by
                rw [HQ.out]
                simp only [Bool.false_eq_true, reduceIte, upOne, HQ3.out, setT, show ¬ (2 : Nat) = 1 from by decide]
                by_cases hji : j = i
                · rw [if_pos hji, if_pos hji]
                  subst hji
                  exact (HREL.out.old HO2.out hj).torn
                · rw [if_neg hji, if_neg hji]
                  exact HREL.out.old HO2.out hj)⟩
              case measure => simp [intOf]; omega
        · rw [if_neg hkn] at HQ
          go_wp2
          go_roundw
          case rel => exact ⟨k + 1, _, _, by go_num, HREL.out.next HP.out Only.refl HREL.out.2.1 HREL.out.2.2.1 (fun j hj => by
            rw [HQ.out]
            simp only [Bool.false_eq_true, reduceIte, upOne]
            exact HREL.out.old Only.refl hj)⟩
          case measure => simp [intOf]; omega
      case true =>
        by_cases hkn : k < n
        · obtain ⟨ad, rfl, hc⟩ := HR.out k hkn
          have hfk := HF.out k hkn
          have hcr : wr.cell? (ad.add k) = some (.int .u8 (f k : Nat)) := (World.cell?_of_block (w := w) (HREL.out.2.2.2.2.block _ (block_lt_of_cell hc) (by
            have := HC.out ad rfl (by omega)
            rw [add_block]
            rintro (e | e)
            · exact this.1 e
            · exact this.2 e))).trans hc
          generalize f k = fk at *
          clear hc
          go_wp2
          go_region
          all_goals
            have hrb := (HREL.out.2.1.set i (.slice va vn vc)).drew
            have hrx := (HREL.out.2.2.1.setOther (a := ⟨gB, i, none⟩) (fun e => n3 e.symm) (.slice va vn vc)).drew
            have hbb := (HBR.out.setOther (a := ⟨gB, i, none⟩) n1 (.slice va vn vc)).drew
            have hoo := (Only.setCell (F := fun j => j = gB ∨ j = gX) (Only.refl (w := wr)) (a := ⟨gB, i, none⟩) (.inl (.inl rfl)) (.slice va vn vc)).drew
            have hya : (wr.setCell ⟨gB, i, none⟩ (.slice va vn vc)).drew.cell? ⟨gA, k, none⟩ = some (.int .i64 (i : Nat)) := (World.cell?_of_block (w := wr) (Below.heap_setCell _ _ _ _ n4)).trans y1
            generalize (wr.setCell ⟨gB, i, none⟩ (.slice va vn vc)).drew = w4 at *
            have HRB := Lib.hid hrb
            have HRX := Lib.hid hrx
            have HOO := Lib.hid hoo
            obtain ⟨p0, p1, p2, p3, p4, p5, p6⟩ := dvr7 hbb
            rw [← HL.out] at p2 p3
            have x5 := hrx.cell (i := i) hin
            have x6 := hrx.frozen i
            clear hrb hrx hbb hoo y1 y2 x1 x2 x3 x4 q0 q1 q2 q3 q4 q5 q6
            go_wp2
            go_region
            all_goals
              have HRB2 := Lib.hid ((HRB.out.setOther (a := ⟨gX, i, none⟩) n3 (.bool false)).drew)
              have HRX2 := Lib.hid (((HRX.out.set i (.bool false)).drew).congr (g := fun j => .bool (if j = i then false else Y j)) (fun j _ => by
                by_cases e : j = i
                · rw [if_pos e, if_pos e]
                · rw [if_neg e, if_neg e]))
              have HO2 := Lib.hid ((HOO.out.setCell (a := ⟨gX, i, none⟩) (.inl (.inr rfl)) (.bool false)).drew)
              go_wp2
              go_roundw
              case rel => exact ⟨k + 1, _, _, by go_num, HREL.out.next HP.out HO2.out HRB2.out HRX2.out (fun j hj => by
                simp only [if_true, setT]
                by_cases hji : j = i
                · rw [if_pos hji, if_pos hji, if_pos hji]
                  exact ⟨rfl, (HSC.out.keep (fun y hy hl => HREL.out.2.2.2.2.block y hl (by rintro (e | e); exact hy.2.2.1 e; exact hy.2.2.2.1 e)) (fun _ hy _ => hy)).keep (fun y hy hl => HO2.out.block y hl (by rintro (e | e); exact hy.2.2.1 e; exact hy.2.2.2.1 e)) (fun _ hy _ => hy)⟩
                · rw [if_neg hji, if_neg hji, if_neg hji]
                  exact HREL.out.old HO2.out hj)⟩
              case measure => simp [intOf]; omega
        · go_wp2
          go_region
          all_goals
            have hrb := (HREL.out.2.1.set i (.slice va vn vc)).drew
            have hrx := (HREL.out.2.2.1.setOther (a := ⟨gB, i, none⟩) (fun e => n3 e.symm) (.slice va vn vc)).drew
            have hbb := (HBR.out.setOther (a := ⟨gB, i, none⟩) n1 (.slice va vn vc)).drew
            have hoo := (Only.setCell (F := fun j => j = gB ∨ j = gX) (Only.refl (w := wr)) (a := ⟨gB, i, none⟩) (.inl (.inl rfl)) (.slice va vn vc)).drew
            have hya : (wr.setCell ⟨gB, i, none⟩ (.slice va vn vc)).drew.cell? ⟨gA, k, none⟩ = some (.int .i64 (i : Nat)) := (World.cell?_of_block (w := wr) (Below.heap_setCell _ _ _ _ n4)).trans y1
            generalize (wr.setCell ⟨gB, i, none⟩ (.slice va vn vc)).drew = w4 at *
            have HRB := Lib.hid hrb
            have HRX := Lib.hid hrx
            have HOO := Lib.hid hoo
            obtain ⟨p0, p1, p2, p3, p4, p5, p6⟩ := dvr7 hbb
            rw [← HL.out] at p2 p3
            have x5 := hrx.cell (i := i) hin
            have x6 := hrx.frozen i
            clear hrb hrx hbb hoo y1 y2 x1 x2 x3 x4 q0 q1 q2 q3 q4 q5 q6
            go_wp2
            go_region
            all_goals
              have HRB2 := Lib.hid ((HRB.out.setOther (a := ⟨gX, i, none⟩) n3 (.bool false)).drew)
              have HRX2 := Lib.hid (((HRX.out.set i (.bool false)).drew).congr (g := fun j => .bool (if j = i then false else Y j)) (fun j _ => by
                by_cases e : j = i
                · rw [if_pos e, if_pos e]
                · rw [if_neg e, if_neg e]))
              have HO2 := Lib.hid ((HOO.out.setCell (a := ⟨gX, i, none⟩) (.inl (.inr rfl)) (.bool false)).drew)
              go_wp2
              go_roundw
              case rel => exact ⟨k + 1, _, _, by go_num, HREL.out.next HP.out HO2.out HRB2.out HRX2.out (fun j hj => by
                simp only [if_true, setT]
                by_cases hji : j = i
                · rw [if_pos hji, if_pos hji, if_pos hji]
                  exact ⟨rfl, (HSC.out.keep (fun y hy hl => HREL.out.2.2.2.2.block y hl (by rintro (e | e); exact hy.2.2.1 e; exact hy.2.2.2.1 e)) (fun _ hy _ => hy)).keep (fun y hy hl => HO2.out.block y hl (by rintro (e | e); exact hy.2.2.1 e; exact hy.2.2.2.1 e)) (fun _ hy _ => hy)⟩
                · rw [if_neg hji, if_neg hji, if_neg hji]
                  exact HREL.out.old HO2.out hj)⟩
              case measure => simp [intOf]; omega
    · obtain rfl : k = L := by omega
      have z2 := HBR.out.frozen 2
      have z3 := HBR.out.frozen 3
      go_wp2
      go_end0
      exact ⟨rfl, V, Y, lay_fin HH.out HREL.out HL.out (only_box (only_box Only.refl _ _) _ _) (d7_3 (d7_2 HBR.out _) _)⟩
end
end Go.Proofs.Yteeomidlnijfbaa
