/- Contracts of the document's own fractions: Cmp, Add, Sub, Mul, Div, Of, Same. -/
import Derived.Test.YtebdmidghidaeaaGreatPRk
namespace Go.Proofs.YtebdmidghidaeaaGreat
open Go.RowKit
attribute [local go_sem ↓] Go.wp_at_zero Go.wp_at_succ
set_option linter.unusedVariables false

theorem limQ_mk {k : Nat} {w : World} {b b' : Bool} {m m' : Value} {X Y : Int} {q : Rat} (h1 : LimI k w (.agg #[.bool b, m]) X) (h2 : LimI k w (.agg #[.bool b', m']) Y) (hY : 0 < Y) (hq : Rat.divInt X Y = q) : LimQ k w (.agg #[.bool b, m, .bool b', m']) q :=
  ⟨X, Y, limR_mk h1 h2, by unfold ratOf; rw [if_pos hY, hq]⟩
set_option maxRecDepth 100000 in
set_option maxHeartbeats 1000000 in
theorem same_q0 (b : Bool) (A : Option Addr) (n c : Nat) (b' : Bool) (A' : Option Addr) (n' c' : Nat) (p : Bool) (P : Option Addr) (m d : Nat) (p' : Bool) (P' : Option Addr) (m' d' : Nat) (w : World) (k l : Nat) (x : Rat) (hx : IsRat w (.agg #[.bool b, .slice A n c, .bool b', .slice A' n' c']) x) (hy : IsRat w (.agg #[.bool p, .slice P m d, .bool p', .slice P' m' d']) x) (hb : BQ k x) (hk : k ≤ 100000) :
    Calls Tryz.prog 16 #[(.agg #[.bool b, .slice A n c, .bool b', .slice A' n' c']), (.agg #[.bool p, .slice P m d, .bool p', .slice P' m' d'])] w fun e w' => e = .returned (.bool true) ∧ Below w.heap.size w w' := by
  obtain ⟨_, _, _, _, e0, s1, s2⟩ := hx
  injection e0 with e0
  injection e0 with e0
  simp at e0
  obtain ⟨rfl, rfl, rfl, rfl⟩ := e0
  obtain ⟨_, _, _, _, e0, s3, s4⟩ := hy
  injection e0 with e0
  injection e0 with e0
  simp at e0
  obtain ⟨rfl, rfl, rfl, rfl⟩ := e0
  have BN := Lib.hid hb.1
  have BD := Lib.hid (show ((x.den : Int)).natAbs < 4294967296 ^ k from hb.2)
  have x_0 := Lib.hid s1
  have y_0 := Lib.hid s2
  have u_0 := Lib.hid s3
  have v_0 := Lib.hid s4
  clear s1 s2 s3 s4 hb
  go_enter Tryz.func16, Tryz.ntmps16
  go_wp2_with fail
  refine Calls.mono (isInt_same ((x_0.out.alloc_ _).alloc_ _) ((u_0.out.alloc_ _).alloc_ _) BN.out (by omega)) ?_
  rintro e w1 ⟨rfl, hb⟩
  have hB := bun (bun (hb))
  have y_1 := Lib.hid (y_0.out.below hB)
  have v_1 := Lib.hid (v_0.out.below hB)
  have Ka_1 := Lib.hid (show Blk w1 (w.heap.size) 27 #[.bool b, .slice A n c, .bool b', .slice A' n' c'] from ((Blk.new _ _ (by simp) _ _).alloc_ _).below hb)
  have Kb_1 := Lib.hid (show Blk w1 (w.heap.size + 1) 27 #[.bool p, .slice P m d, .bool p', .slice P' m' d'] from (Blk.new _ _ (by simp) _ _).below hb)
  have HB_1 := Lib.hid (hB)
  have hs_1 : w.heap.size ≤ w1.heap.size := HB_1.out.size
  have hz_1 : w.heap.size + 2 ≤ w1.heap.size := (by have h := hb.size; (try simp at h); omega)
  clear hB hb x_0 y_0 u_0 v_0
  obtain ⟨p10, p11, p12, p13, l1⟩ := Ka_1.out.use4
  obtain ⟨p20, p21, p22, p23, l2⟩ := Kb_1.out.use4
  go_wp2_with fail
  refine Calls.mono (isInt_same y_1.out v_1.out BD.out (by omega)) ?_
  rintro e w2 ⟨rfl, hb⟩
  have hB := hb
  have y_2 := Lib.hid (y_1.out.below hB)
  have v_2 := Lib.hid (v_1.out.below hB)
  have Ka_2 := Lib.hid (Ka_1.out.below hB)
  have Kb_2 := Lib.hid (Kb_1.out.below hB)
  have HB_2 := Lib.hid (below_trans HB_1.out hB)
  have hs_2 : w.heap.size ≤ w2.heap.size := HB_2.out.size
  have hz_2 : w1.heap.size + 0 ≤ w2.heap.size := (by have h := hb.size; (try simp at h); omega)
  clear hB hb y_1 v_1 Ka_1 Kb_1 HB_1 p10 p11 p12 p13 l1 p20 p21 p22 p23 l2
  go_wp2
  go_ret
  exact ⟨rfl, HB_2.out⟩

theorem rat_same {k : Nat} {w : World} {v v' : Value} {x : Rat} (hx : IsRat w v x) (hy : IsRat w v' x) (hb : BQ k x) (hk : k ≤ 100000) : Calls Tryz.prog 16 #[v, v'] w fun e w' => e = .returned (.bool true) ∧ Below w.heap.size w w' := by
  have Hx := hx
  have Hy := hy
  obtain ⟨b, A, n, c, b', A', n', c', rfl, -⟩ := hx.form
  obtain ⟨p, P, m, d, p', P', m', d', rfl, -⟩ := hy.form
  exact same_q0 b A n c b' A' n' c' p P m d p' P' m' d' w k 0 x Hx Hy hb hk
end Go.Proofs.YtebdmidghidaeaaGreat
