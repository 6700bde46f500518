/- Contracts of the document's own whole numbers: Text, Small. -/
import Derived.Test.YthndfmpnfgbioaaWo
import Derived.IntWalk
namespace Go.Proofs.Ythndfmpnfgbioaa
open Go.RowKit
attribute [local go_sem ↓] Go.wp_at_zero Go.wp_at_succ
set_option linter.unusedVariables false

theorem cmpI_lt {X Y : Int} (h : X < Y) : cmpI X Y = -1 := if_pos h
theorem cmpI_gt {X Y : Int} (h : Y < X) : cmpI X Y = 1 := by unfold cmpI; rw [if_neg (by omega), if_neg (by omega)]

set_option maxRecDepth 100000 in
theorem field_neg (b : Bool) (A : Option Addr) (n c : Nat) (w : World) : Sem.run Try.prog (Instr.field 41 (.agg #[.bool b, .slice A n c]) 0) w = .ok (.bool b) w := by
  simp [Instr.field, asAgg, go_sem]
set_option maxRecDepth 100000 in
set_option maxHeartbeats 1000000 in
theorem li_rtext {k : Nat} {w : World} {v : Value} {X : Int} (h : LimI k w v X) (hk : k ≤ 1000) : Calls Try.prog 51 #[v] w fun e w' => e = .returned (.string (textI X)) ∧ Below w.heap.size w w' := by
  obtain ⟨b, m, N, rfl, ⟨A, n, c, f, rfl, hr⟩, rfl⟩ := h
  have H : Lim k w (.slice A n c) N := ⟨A, n, c, f, rfl, hr⟩
  have HL := Lib.hid H
  have HT : Hid (textI (sg b N) = if decide (sg b N < 0) then dash ++ decS N else decS N) := by
    show textI _ = _
    unfold textI
    rw [sg_abs]
    by_cases h0 : sg b N < 0 <;> simp [h0]
  have hsz := decS_size H.lt hk
  have CB := Lib.hid (fun W (hW : Lim k W (.slice A n c) N) => li_rplain (k := k) (limI_mk (b := b) hW) (by omega))
  have hcat := fun wq => run_string_add (P := Try.prog) wq dash (decS N) (by show 1 ≤ _; omega) (by omega)
  unfold dash at hcat
  clear hr H
  cases hbl : decide (sg b N < 0)
  all_goals
    unfold IntPost IsInt at CB
    rw [hbl] at CB HT
    clear hbl
    have hfl := fun b A n c w => field_neg b A n c w
    go_enter Try.func51, Try.ntmps51
    go_wp2_with fail
    refine Calls.mono (CB.out _ (HL.out.alloc_ _)) ?_
    rintro e w1 ⟨v1, rfl, ⟨m1, rfl, h1⟩, hb1⟩
    obtain ⟨A1, n1, c1, rfl, hn1, h1⟩ := isNat_form h1
    obtain ⟨hc1, hf1⟩ := bcell hb1
    have hz1 : w.heap.size < w1.heap.size := by have := hb1.size; simp at this; omega
    have HL1 := Lib.hid ((HL.out.alloc_ (.cells #[.bool b, .slice A n c] 41)).below hb1)
    have HB1 := Lib.hid (show Below w.heap.size w w1 from (below_new w _).trans (hb1.mono (by simp)))
    clear hb1 CB h1 hn1
    go_wp2_with fail
    refine Calls.mono (rtext_any HL1.out hk) ?_
    rintro e w2 ⟨rfl, hb2⟩
    have HB2 := Lib.hid (below_trans HB1.out hb2)
    clear hb2 HB1
    go_wp2
    go_ret
    exact ⟨by rw [HT.out]; rfl, HB2.out⟩

theorem limI_dec {k : Nat} {w : World} {m : Value} {b p : Bool} {N : Nat} (hp : decide (sg b N < 0) = p) (h : IsNat w m N) (hN : N < 4294967296 ^ k) : LimI k w (.agg #[.bool p, m]) (sg b N) :=
  ⟨p, m, N, rfl, h.lim hN, by rw [← hp, sg_dec]⟩
/-- The limbs from j on. -/
def topN (f : Nat → Nat) (n j : Nat) : Nat := num 4294967296 (fun i => f (j + i)) (n - j)
theorem topN_end (f : Nat → Nat) (n : Nat) : topN f n n = 0 := by unfold topN; rw [Nat.sub_self]; rfl
theorem topN_all (f : Nat → Nat) (n : Nat) : topN f n 0 = num 4294967296 f n := by unfold topN; exact num_congr _ fun j _ => by rw [Nat.zero_add]
theorem topN_step (f : Nat → Nat) {n j : Nat} (h : j < n) : topN f n j = topN f n (j + 1) * 4294967296 + f j := by
  unfold topN
  rw [num_first (by omega)]
  have e : (fun i => f (j + (i + 1))) = fun i => f (j + 1 + i) := funext fun i => by congr 1; omega
  simp only [e, Nat.add_zero]
  rw [show n - j - 1 = n - (j + 1) from by omega, Nat.mul_comm, Nat.add_comm]
theorem topN_le (f : Nat → Nat) {n j : Nat} (h : j ≤ n) : topN f n j ≤ num 4294967296 f n := by
  have e : num 4294967296 f n = num 4294967296 f (j + (n - j)) := by rw [show j + (n - j) = n from by omega]
  rw [e, num_add]
  have hp : 0 < 4294967296 ^ j := Nat.pow_pos (by omega)
  have : 1 * topN f n j ≤ 4294967296 ^ j * topN f n j := Nat.mul_le_mul_right _ hp
  unfold topN at *
  omega

set_option maxRecDepth 100000 in
set_option maxHeartbeats 4000000 in
theorem rsmall_low (b : Bool) (A : Option Addr) (n c N k : Nat) (w : World) (h : Lim k w (.slice A n c) N) (hk : k ≤ 100000) (hX : sg b N < -9223372036854775808) :
    Calls Try.prog 48 #[.agg #[.bool b, .slice A n c]] w fun e w' => e = .returned (.tuple #[.int .i64 0, .bool false]) ∧ Below w.heap.size w w' := by
  have HN := Lib.hid h.lt
  have F0 := Lib.hid (limI_mk (b := b) h)
  have R1 : Hid (cmpI (sg b N) (sg true (0 + 2147483648 * 4294967296)) = -1) := cmpI_lt (by show _ < -(_ : Int); omega)
  clear hX
  clear h
  go_enter Try.func48, Try.ntmps48
  go_wp2_with fail
  refine Calls.mono (li_rplain (k := k) (X := sg b N) (by repeat (first | (with_reducible first | assumption | (refine Hid.out ?_; assumption) | apply Blk.drew_ | apply LimI.drew_ | apply IsInt.drew_ | apply Lim.drew_ | apply IsNat.drew_) | ((with_reducible refine Blk.new _ _ ?_ _ _) <;> (first | rfl | (simp; done))) | (with_reducible first | refine LimI.alloc_ ?_ _ | refine IsInt.alloc_ ?_ _ | refine Lim.alloc_ ?_ _ | refine IsNat.alloc_ ?_ _ | refine Blk.alloc_ ?_ _ | apply Blk.own2 | refine Blk.other2 ?_ (by omega) | apply LimI.other2 | apply IsInt.other2 | apply IsNat.other2 | apply Lim.other2 | (apply Blk.below; rotate_left; assumption) | (apply LimI.below; rotate_left; assumption) | (apply IsInt.below; rotate_left; assumption) | (apply Lim.below; rotate_left; assumption) | (apply IsNat.below; rotate_left; assumption)))) (by omega)) ?_
  rintro e w1 ⟨v1, rfl, h1, hb1⟩
  obtain ⟨m1, rfl, h1⟩ := h1
  rw [sg_abs] at h1
  obtain ⟨A1, n1, c1, rfl, hn1, h1⟩ := isNat_form h1
  have hz1 : w.heap.size + 1 ≤ w1.heap.size := (by have hz := hb1.size; (try simp at hz); omega)
  have k1_a := Blk.below (g := w.heap.size) (t := 41) (cs := #[.bool b, .slice A n c]) (by repeat (first | (with_reducible first | assumption | (refine Hid.out ?_; assumption) | apply Blk.drew_) | ((with_reducible refine Blk.new _ _ ?_ _ _) <;> (first | rfl | (simp; done))) | (with_reducible first | refine Blk.alloc_ ?_ _ | apply Blk.own2 | refine Blk.other2 ?_ (by omega) | (apply Blk.below; rotate_left; assumption)))) hb1
  have p1_a := k1_a.cell0
  have d1_a : w.heap.size < w1.heap.size := k1_a.lt
  have q1_a := k1_a.cell1
  have K1_a := Lib.hid k1_a; clear k1_a
  have fa_1 := Lib.hid (show LimI k w1 (.agg #[.bool b, .slice A n c]) (sg b N) from (by repeat (first | (with_reducible first | assumption | (refine Hid.out ?_; assumption) | apply Blk.drew_ | apply LimI.drew_ | apply IsInt.drew_ | apply Lim.drew_ | apply IsNat.drew_) | ((with_reducible refine Blk.new _ _ ?_ _ _) <;> (first | rfl | (simp; done))) | (with_reducible first | refine LimI.alloc_ ?_ _ | refine IsInt.alloc_ ?_ _ | refine Lim.alloc_ ?_ _ | refine IsNat.alloc_ ?_ _ | refine Blk.alloc_ ?_ _ | apply Blk.own2 | refine Blk.other2 ?_ (by omega) | apply LimI.other2 | apply IsInt.other2 | apply IsNat.other2 | apply Lim.other2 | (apply Blk.below; rotate_left; assumption) | (apply LimI.below; rotate_left; assumption) | (apply IsInt.below; rotate_left; assumption) | (apply Lim.below; rotate_left; assumption) | (apply IsNat.below; rotate_left; assumption)))))
  have x_1 := Lib.hid (show IsNat w1 (.slice A1 n1 c1) N from h1)
  have HB1 := Lib.hid (show Below w.heap.size w w1 from (by repeat first | exact Below.refl _ _ | (with_reducible refine Below.trans ?_ (Below.mono (by with_reducible assumption) ?_)) | (with_reducible refine Below.alloc_ ?_ ?_ _) | (with_reducible refine Below.drew ?_) | (with_reducible refine Below.set2 ?_ ?_) | exact Nat.le_refl _ | omega | focus (simp <;> omega)))
  have hs1 : w.heap.size ≤ w1.heap.size := HB1.out.size
  clear hb1
  go_wp2_with fail
  refine Calls.mono (li_rcmp_is (k := k) (l := 2) (X := sg b N) (Y := (sg true (0 + 2147483648 * 4294967296))) (-1) R1.out (by refine limI_dec (b := b) rfl (by repeat (first | (with_reducible first | assumption | (refine Hid.out ?_; assumption) | apply Blk.drew_ | apply LimI.drew_ | apply IsInt.drew_ | apply Lim.drew_ | apply IsNat.drew_) | ((with_reducible refine Blk.new _ _ ?_ _ _) <;> (first | rfl | (simp; done))) | (with_reducible first | refine LimI.alloc_ ?_ _ | refine IsInt.alloc_ ?_ _ | refine Lim.alloc_ ?_ _ | refine IsNat.alloc_ ?_ _ | refine Blk.alloc_ ?_ _ | apply Blk.own2 | refine Blk.other2 ?_ (by omega) | apply LimI.other2 | apply IsInt.other2 | apply IsNat.other2 | apply Lim.other2 | (apply Blk.below; rotate_left; assumption) | (apply LimI.below; rotate_left; assumption) | (apply IsInt.below; rotate_left; assumption) | (apply Lim.below; rotate_left; assumption) | (apply IsNat.below; rotate_left; assumption)))) HN.out) (by refine limI_mk (b := true) (lit_two _ _ ?_ 0 2147483648 _ _ rfl rfl (by omega) (by omega)); first | rfl | (simp; done)) (by omega) (by omega)) ?_
  rintro e w2 ⟨rfl, hb2⟩
  have hz2 : w1.heap.size + 1 ≤ w2.heap.size := (by have hz := hb2.size; (try simp at hz); omega)
  have k2_x := Blk.below (g := w1.heap.size) (t := 41) (cs := #[.bool (decide (sg b N < 0)), .slice A1 n1 c1]) (by repeat (first | (with_reducible first | assumption | (refine Hid.out ?_; assumption) | apply Blk.drew_) | ((with_reducible refine Blk.new _ _ ?_ _ _) <;> (first | rfl | (simp; done))) | (with_reducible first | refine Blk.alloc_ ?_ _ | apply Blk.own2 | refine Blk.other2 ?_ (by omega) | (apply Blk.below; rotate_left; assumption)))) hb2
  have p2_x := k2_x.cell0
  have d2_x : w1.heap.size < w2.heap.size := k2_x.lt
  have q2_x := k2_x.cell1
  have K2_x := Lib.hid k2_x; clear k2_x
  have x_2 := Lib.hid (show IsNat w2 (.slice A1 n1 c1) N from (by repeat (first | (with_reducible first | assumption | (refine Hid.out ?_; assumption) | apply Blk.drew_ | apply LimI.drew_ | apply IsInt.drew_ | apply Lim.drew_ | apply IsNat.drew_) | ((with_reducible refine Blk.new _ _ ?_ _ _) <;> (first | rfl | (simp; done))) | (with_reducible first | refine LimI.alloc_ ?_ _ | refine IsInt.alloc_ ?_ _ | refine Lim.alloc_ ?_ _ | refine IsNat.alloc_ ?_ _ | refine Blk.alloc_ ?_ _ | apply Blk.own2 | refine Blk.other2 ?_ (by omega) | apply LimI.other2 | apply IsInt.other2 | apply IsNat.other2 | apply Lim.other2 | (apply Blk.below; rotate_left; assumption) | (apply LimI.below; rotate_left; assumption) | (apply IsInt.below; rotate_left; assumption) | (apply Lim.below; rotate_left; assumption) | (apply IsNat.below; rotate_left; assumption)))))
  have HB2 := Lib.hid (show Below w.heap.size w w2 from (by repeat first | exact Below.refl _ _ | exact HB1.out | (with_reducible refine Below.trans ?_ (Below.mono (by with_reducible assumption) ?_)) | (with_reducible refine Below.alloc_ ?_ ?_ _) | (with_reducible refine Below.drew ?_) | (with_reducible refine Below.set2 ?_ ?_) | exact Nat.le_refl _ | omega | focus (simp <;> omega)))
  have hs2 : w.heap.size ≤ w2.heap.size := HB2.out.size
  clear K1_a fa_1 x_1 HB1 hb2
  go_wp2
  exact bodyPost_ret (v := .tuple #[.int .i64 0, .bool false]) (by simp [results, Try.results48, go_sem]) rfl ⟨rfl, HB2.out⟩

set_option maxRecDepth 100000 in
set_option maxHeartbeats 4000000 in
theorem rsmall_high (b : Bool) (A : Option Addr) (n c N k : Nat) (w : World) (h : Lim k w (.slice A n c) N) (hk : k ≤ 100000) (hX : 9223372036854775807 < sg b N) :
    Calls Try.prog 48 #[.agg #[.bool b, .slice A n c]] w fun e w' => e = .returned (.tuple #[.int .i64 0, .bool false]) ∧ Below w.heap.size w w' := by
  have HN := Lib.hid h.lt
  have F0 := Lib.hid (limI_mk (b := b) h)
  have R1 : Hid (cmpI (sg b N) (sg true (0 + 2147483648 * 4294967296)) = 1) := cmpI_gt (by show -(_ : Int) < _; omega)
  have R2 : Hid (cmpI (sg b N) (sg false (4294967295 + 2147483647 * 4294967296)) = 1) := cmpI_gt (by show ((_ : Nat) : Int) < _; omega)
  clear hX
  clear h
  go_enter Try.func48, Try.ntmps48
  go_wp2_with fail
  refine Calls.mono (li_rplain (k := k) (X := sg b N) (by repeat (first | (with_reducible first | assumption | (refine Hid.out ?_; assumption) | apply Blk.drew_ | apply LimI.drew_ | apply IsInt.drew_ | apply Lim.drew_ | apply IsNat.drew_) | ((with_reducible refine Blk.new _ _ ?_ _ _) <;> (first | rfl | (simp; done))) | (with_reducible first | refine LimI.alloc_ ?_ _ | refine IsInt.alloc_ ?_ _ | refine Lim.alloc_ ?_ _ | refine IsNat.alloc_ ?_ _ | refine Blk.alloc_ ?_ _ | apply Blk.own2 | refine Blk.other2 ?_ (by omega) | apply LimI.other2 | apply IsInt.other2 | apply IsNat.other2 | apply Lim.other2 | (apply Blk.below; rotate_left; assumption) | (apply LimI.below; rotate_left; assumption) | (apply IsInt.below; rotate_left; assumption) | (apply Lim.below; rotate_left; assumption) | (apply IsNat.below; rotate_left; assumption)))) (by omega)) ?_
  rintro e w1 ⟨v1, rfl, h1, hb1⟩
  obtain ⟨m1, rfl, h1⟩ := h1
  rw [sg_abs] at h1
  obtain ⟨A1, n1, c1, rfl, hn1, h1⟩ := isNat_form h1
  have hz1 : w.heap.size + 1 ≤ w1.heap.size := (by have hz := hb1.size; (try simp at hz); omega)
  have k1_a := Blk.below (g := w.heap.size) (t := 41) (cs := #[.bool b, .slice A n c]) (by repeat (first | (with_reducible first | assumption | (refine Hid.out ?_; assumption) | apply Blk.drew_) | ((with_reducible refine Blk.new _ _ ?_ _ _) <;> (first | rfl | (simp; done))) | (with_reducible first | refine Blk.alloc_ ?_ _ | apply Blk.own2 | refine Blk.other2 ?_ (by omega) | (apply Blk.below; rotate_left; assumption)))) hb1
  have p1_a := k1_a.cell0
  have d1_a : w.heap.size < w1.heap.size := k1_a.lt
  have q1_a := k1_a.cell1
  have K1_a := Lib.hid k1_a; clear k1_a
  have fa_1 := Lib.hid (show LimI k w1 (.agg #[.bool b, .slice A n c]) (sg b N) from (by repeat (first | (with_reducible first | assumption | (refine Hid.out ?_; assumption) | apply Blk.drew_ | apply LimI.drew_ | apply IsInt.drew_ | apply Lim.drew_ | apply IsNat.drew_) | ((with_reducible refine Blk.new _ _ ?_ _ _) <;> (first | rfl | (simp; done))) | (with_reducible first | refine LimI.alloc_ ?_ _ | refine IsInt.alloc_ ?_ _ | refine Lim.alloc_ ?_ _ | refine IsNat.alloc_ ?_ _ | refine Blk.alloc_ ?_ _ | apply Blk.own2 | refine Blk.other2 ?_ (by omega) | apply LimI.other2 | apply IsInt.other2 | apply IsNat.other2 | apply Lim.other2 | (apply Blk.below; rotate_left; assumption) | (apply LimI.below; rotate_left; assumption) | (apply IsInt.below; rotate_left; assumption) | (apply Lim.below; rotate_left; assumption) | (apply IsNat.below; rotate_left; assumption)))))
  have x_1 := Lib.hid (show IsNat w1 (.slice A1 n1 c1) N from h1)
  have HB1 := Lib.hid (show Below w.heap.size w w1 from (by repeat first | exact Below.refl _ _ | (with_reducible refine Below.trans ?_ (Below.mono (by with_reducible assumption) ?_)) | (with_reducible refine Below.alloc_ ?_ ?_ _) | (with_reducible refine Below.drew ?_) | (with_reducible refine Below.set2 ?_ ?_) | exact Nat.le_refl _ | omega | focus (simp <;> omega)))
  have hs1 : w.heap.size ≤ w1.heap.size := HB1.out.size
  clear hb1
  go_wp2_with fail
  refine Calls.mono (li_rcmp_is (k := k) (l := 2) (X := sg b N) (Y := (sg true (0 + 2147483648 * 4294967296))) 1 R1.out (by refine limI_dec (b := b) rfl (by repeat (first | (with_reducible first | assumption | (refine Hid.out ?_; assumption) | apply Blk.drew_ | apply LimI.drew_ | apply IsInt.drew_ | apply Lim.drew_ | apply IsNat.drew_) | ((with_reducible refine Blk.new _ _ ?_ _ _) <;> (first | rfl | (simp; done))) | (with_reducible first | refine LimI.alloc_ ?_ _ | refine IsInt.alloc_ ?_ _ | refine Lim.alloc_ ?_ _ | refine IsNat.alloc_ ?_ _ | refine Blk.alloc_ ?_ _ | apply Blk.own2 | refine Blk.other2 ?_ (by omega) | apply LimI.other2 | apply IsInt.other2 | apply IsNat.other2 | apply Lim.other2 | (apply Blk.below; rotate_left; assumption) | (apply LimI.below; rotate_left; assumption) | (apply IsInt.below; rotate_left; assumption) | (apply Lim.below; rotate_left; assumption) | (apply IsNat.below; rotate_left; assumption)))) HN.out) (by refine limI_mk (b := true) (lit_two _ _ ?_ 0 2147483648 _ _ rfl rfl (by omega) (by omega)); first | rfl | (simp; done)) (by omega) (by omega)) ?_
  rintro e w2 ⟨rfl, hb2⟩
  have hz2 : w1.heap.size + 1 ≤ w2.heap.size := (by have hz := hb2.size; (try simp at hz); omega)
  have k2_x := Blk.below (g := w1.heap.size) (t := 41) (cs := #[.bool (decide (sg b N < 0)), .slice A1 n1 c1]) (by repeat (first | (with_reducible first | assumption | (refine Hid.out ?_; assumption) | apply Blk.drew_) | ((with_reducible refine Blk.new _ _ ?_ _ _) <;> (first | rfl | (simp; done))) | (with_reducible first | refine Blk.alloc_ ?_ _ | apply Blk.own2 | refine Blk.other2 ?_ (by omega) | (apply Blk.below; rotate_left; assumption)))) hb2
  have p2_x := k2_x.cell0
  have d2_x : w1.heap.size < w2.heap.size := k2_x.lt
  have q2_x := k2_x.cell1
  have K2_x := Lib.hid k2_x; clear k2_x
  have x_2 := Lib.hid (show IsNat w2 (.slice A1 n1 c1) N from (by repeat (first | (with_reducible first | assumption | (refine Hid.out ?_; assumption) | apply Blk.drew_ | apply LimI.drew_ | apply IsInt.drew_ | apply Lim.drew_ | apply IsNat.drew_) | ((with_reducible refine Blk.new _ _ ?_ _ _) <;> (first | rfl | (simp; done))) | (with_reducible first | refine LimI.alloc_ ?_ _ | refine IsInt.alloc_ ?_ _ | refine Lim.alloc_ ?_ _ | refine IsNat.alloc_ ?_ _ | refine Blk.alloc_ ?_ _ | apply Blk.own2 | refine Blk.other2 ?_ (by omega) | apply LimI.other2 | apply IsInt.other2 | apply IsNat.other2 | apply Lim.other2 | (apply Blk.below; rotate_left; assumption) | (apply LimI.below; rotate_left; assumption) | (apply IsInt.below; rotate_left; assumption) | (apply Lim.below; rotate_left; assumption) | (apply IsNat.below; rotate_left; assumption)))))
  have HB2 := Lib.hid (show Below w.heap.size w w2 from (by repeat first | exact Below.refl _ _ | exact HB1.out | (with_reducible refine Below.trans ?_ (Below.mono (by with_reducible assumption) ?_)) | (with_reducible refine Below.alloc_ ?_ ?_ _) | (with_reducible refine Below.drew ?_) | (with_reducible refine Below.set2 ?_ ?_) | exact Nat.le_refl _ | omega | focus (simp <;> omega)))
  have hs2 : w.heap.size ≤ w2.heap.size := HB2.out.size
  clear K1_a fa_1 x_1 HB1 hb2
  go_wp2_with fail
  refine Calls.mono (li_rcmp_is (k := k) (l := 2) (X := sg b N) (Y := (sg false (4294967295 + 2147483647 * 4294967296))) 1 R2.out (by refine limI_dec (b := b) rfl (by repeat (first | (with_reducible first | assumption | (refine Hid.out ?_; assumption) | apply Blk.drew_ | apply LimI.drew_ | apply IsInt.drew_ | apply Lim.drew_ | apply IsNat.drew_) | ((with_reducible refine Blk.new _ _ ?_ _ _) <;> (first | rfl | (simp; done))) | (with_reducible first | refine LimI.alloc_ ?_ _ | refine IsInt.alloc_ ?_ _ | refine Lim.alloc_ ?_ _ | refine IsNat.alloc_ ?_ _ | refine Blk.alloc_ ?_ _ | apply Blk.own2 | refine Blk.other2 ?_ (by omega) | apply LimI.other2 | apply IsInt.other2 | apply IsNat.other2 | apply Lim.other2 | (apply Blk.below; rotate_left; assumption) | (apply LimI.below; rotate_left; assumption) | (apply IsInt.below; rotate_left; assumption) | (apply Lim.below; rotate_left; assumption) | (apply IsNat.below; rotate_left; assumption)))) HN.out) (by refine limI_mk (b := false) (lit_two _ _ ?_ 4294967295 2147483647 _ _ rfl rfl (by omega) (by omega)); first | rfl | (simp; done)) (by omega) (by omega)) ?_
  rintro e w3 ⟨rfl, hb3⟩
  have hz3 : w2.heap.size ≤ w3.heap.size := (by have hz := hb3.size; (try simp at hz); omega)
  have k3_x := Blk.below (g := w1.heap.size) (t := 41) (cs := #[.bool (decide (sg b N < 0)), .slice A1 n1 c1]) (by repeat (first | (with_reducible first | assumption | (refine Hid.out ?_; assumption) | apply Blk.drew_) | ((with_reducible refine Blk.new _ _ ?_ _ _) <;> (first | rfl | (simp; done))) | (with_reducible first | refine Blk.alloc_ ?_ _ | apply Blk.own2 | refine Blk.other2 ?_ (by omega) | (apply Blk.below; rotate_left; assumption)))) hb3
  have p3_x := k3_x.cell0
  have d3_x : w1.heap.size < w3.heap.size := k3_x.lt
  have q3_x := k3_x.cell1
  have K3_x := Lib.hid k3_x; clear k3_x
  have x_3 := Lib.hid (show IsNat w3 (.slice A1 n1 c1) N from (by repeat (first | (with_reducible first | assumption | (refine Hid.out ?_; assumption) | apply Blk.drew_ | apply LimI.drew_ | apply IsInt.drew_ | apply Lim.drew_ | apply IsNat.drew_) | ((with_reducible refine Blk.new _ _ ?_ _ _) <;> (first | rfl | (simp; done))) | (with_reducible first | refine LimI.alloc_ ?_ _ | refine IsInt.alloc_ ?_ _ | refine Lim.alloc_ ?_ _ | refine IsNat.alloc_ ?_ _ | refine Blk.alloc_ ?_ _ | apply Blk.own2 | refine Blk.other2 ?_ (by omega) | apply LimI.other2 | apply IsInt.other2 | apply IsNat.other2 | apply Lim.other2 | (apply Blk.below; rotate_left; assumption) | (apply LimI.below; rotate_left; assumption) | (apply IsInt.below; rotate_left; assumption) | (apply Lim.below; rotate_left; assumption) | (apply IsNat.below; rotate_left; assumption)))))
  have HB3 := Lib.hid (show Below w.heap.size w w3 from (by repeat first | exact Below.refl _ _ | exact HB2.out | (with_reducible refine Below.trans ?_ (Below.mono (by with_reducible assumption) ?_)) | (with_reducible refine Below.alloc_ ?_ ?_ _) | (with_reducible refine Below.drew ?_) | (with_reducible refine Below.set2 ?_ ?_) | exact Nat.le_refl _ | omega | focus (simp <;> omega)))
  have hs3 : w.heap.size ≤ w3.heap.size := HB3.out.size
  clear K2_x x_2 HB2 hb3
  go_wp2
  exact bodyPost_ret (v := .tuple #[.int .i64 0, .bool false]) (by simp [results, Try.results48, go_sem]) rfl ⟨rfl, HB3.out⟩

set_option maxRecDepth 100000 in
set_option maxHeartbeats 4000000 in
theorem rsmall_f (b : Bool) (A : Option Addr) (n c N k : Nat) (w : World) (h : Lim k w (.slice A n c) N) (hk : k ≤ 100000) (hp : decide (sg b N < 0) = false) (hX : -9223372036854775808 ≤ sg b N ∧ sg b N ≤ 9223372036854775807) :
    Calls Try.prog 48 #[.agg #[.bool b, .slice A n c]] w fun e w' => e = .returned (.tuple #[.int .i64 (sg b N), .bool true]) ∧ Below w.heap.size w w' := by
  have HN := Lib.hid h.lt
  have F0 := Lib.hid (limI_mk (b := b) h)
  have hsg : sg b N = sg false N := by rw [← hp, sg_dec]
  have HSG := Lib.hid hsg
  have hNN : (N : Int) ≤ 9223372036854775807 := by rw [hsg] at hX; unfold sg at hX; simp at hX; omega
  obtain ⟨r, hr⟩ : ∃ r, cmpI (sg b N) (sg true (0 + 2147483648 * 4294967296)) = r := ⟨_, rfl⟩
  obtain ⟨s, hs⟩ : ∃ r, cmpI (sg b N) (sg false (4294967295 + 2147483647 * 4294967296)) = r := ⟨_, rfl⟩
  have r0 : 0 ≤ r := by
    rw [← hr]
    unfold cmpI
    rw [if_neg (by show ¬ _ < -(_ : Int); omega)]
    split <;> omega
  have s0 : s ≤ 0 := by
    rw [← hs]
    unfold cmpI
    by_cases hq : sg b N < (sg false (4294967295 + 2147483647 * 4294967296))
    · rw [if_pos hq]; omega
    · have : sg b N = (sg false (4294967295 + 2147483647 * 4294967296)) := by
        have h1 : ¬ sg b N < ((4294967295 + 2147483647 * 4294967296 : Nat) : Int) := hq
        show _ = ((4294967295 + 2147483647 * 4294967296 : Nat) : Int)
        omega
      rw [if_neg hq, if_pos this]; omega
  have r0n : ¬ r < 0 := by omega
  have r0d : decide (r < 0) = false := decide_eq_false (by omega)
  have s0d : decide (0 < s) = false := decide_eq_false (by omega)
  have R1 := Lib.hid hr
  have R2 := Lib.hid hs
  have HNN := Lib.hid hNN
  clear hr hs hX hsg hNN
  clear h
  go_enter Try.func48, Try.ntmps48
  go_wp2_with fail
  refine Calls.mono (li_rplain (k := k) (X := sg b N) (by repeat (first | (with_reducible first | assumption | (refine Hid.out ?_; assumption) | apply Blk.drew_ | apply LimI.drew_ | apply IsInt.drew_ | apply Lim.drew_ | apply IsNat.drew_) | ((with_reducible refine Blk.new _ _ ?_ _ _) <;> (first | rfl | (simp; done))) | (with_reducible first | refine LimI.alloc_ ?_ _ | refine IsInt.alloc_ ?_ _ | refine Lim.alloc_ ?_ _ | refine IsNat.alloc_ ?_ _ | refine Blk.alloc_ ?_ _ | apply Blk.own2 | refine Blk.other2 ?_ (by omega) | apply LimI.other2 | apply IsInt.other2 | apply IsNat.other2 | apply Lim.other2 | (apply Blk.below; rotate_left; assumption) | (apply LimI.below; rotate_left; assumption) | (apply IsInt.below; rotate_left; assumption) | (apply Lim.below; rotate_left; assumption) | (apply IsNat.below; rotate_left; assumption)))) (by omega)) ?_
  rintro e w1 ⟨v1, rfl, h1, hb1⟩
  obtain ⟨m1, rfl, h1⟩ := h1
  rw [sg_abs] at h1
  rw [hp]
  obtain ⟨A1, n1, c1, rfl, hn1, h1⟩ := isNat_form h1
  have hz1 : w.heap.size + 1 ≤ w1.heap.size := (by have hz := hb1.size; (try simp at hz); omega)
  have k1_a := Blk.below (g := w.heap.size) (t := 41) (cs := #[.bool b, .slice A n c]) (by repeat (first | (with_reducible first | assumption | (refine Hid.out ?_; assumption) | apply Blk.drew_) | ((with_reducible refine Blk.new _ _ ?_ _ _) <;> (first | rfl | (simp; done))) | (with_reducible first | refine Blk.alloc_ ?_ _ | apply Blk.own2 | refine Blk.other2 ?_ (by omega) | (apply Blk.below; rotate_left; assumption)))) hb1
  have p1_a := k1_a.cell0
  have d1_a : w.heap.size < w1.heap.size := k1_a.lt
  have q1_a := k1_a.cell1
  have K1_a := Lib.hid k1_a; clear k1_a
  have fa_1 := Lib.hid (show LimI k w1 (.agg #[.bool b, .slice A n c]) (sg b N) from (by repeat (first | (with_reducible first | assumption | (refine Hid.out ?_; assumption) | apply Blk.drew_ | apply LimI.drew_ | apply IsInt.drew_ | apply Lim.drew_ | apply IsNat.drew_) | ((with_reducible refine Blk.new _ _ ?_ _ _) <;> (first | rfl | (simp; done))) | (with_reducible first | refine LimI.alloc_ ?_ _ | refine IsInt.alloc_ ?_ _ | refine Lim.alloc_ ?_ _ | refine IsNat.alloc_ ?_ _ | refine Blk.alloc_ ?_ _ | apply Blk.own2 | refine Blk.other2 ?_ (by omega) | apply LimI.other2 | apply IsInt.other2 | apply IsNat.other2 | apply Lim.other2 | (apply Blk.below; rotate_left; assumption) | (apply LimI.below; rotate_left; assumption) | (apply IsInt.below; rotate_left; assumption) | (apply Lim.below; rotate_left; assumption) | (apply IsNat.below; rotate_left; assumption)))))
  have x_1 := Lib.hid (show IsNat w1 (.slice A1 n1 c1) N from h1)
  have HB1 := Lib.hid (show Below w.heap.size w w1 from (by repeat first | exact Below.refl _ _ | (with_reducible refine Below.trans ?_ (Below.mono (by with_reducible assumption) ?_)) | (with_reducible refine Below.alloc_ ?_ ?_ _) | (with_reducible refine Below.drew ?_) | (with_reducible refine Below.set2 ?_ ?_) | exact Nat.le_refl _ | omega | focus (simp <;> omega)))
  have hs1 : w.heap.size ≤ w1.heap.size := HB1.out.size
  clear hb1
  go_wp2_with fail
  refine Calls.mono (li_rcmp_is (k := k) (l := 2) (X := sg b N) (Y := (sg true (0 + 2147483648 * 4294967296))) r R1.out (by refine limI_dec (b := b) hp (by repeat (first | (with_reducible first | assumption | (refine Hid.out ?_; assumption) | apply Blk.drew_ | apply LimI.drew_ | apply IsInt.drew_ | apply Lim.drew_ | apply IsNat.drew_) | ((with_reducible refine Blk.new _ _ ?_ _ _) <;> (first | rfl | (simp; done))) | (with_reducible first | refine LimI.alloc_ ?_ _ | refine IsInt.alloc_ ?_ _ | refine Lim.alloc_ ?_ _ | refine IsNat.alloc_ ?_ _ | refine Blk.alloc_ ?_ _ | apply Blk.own2 | refine Blk.other2 ?_ (by omega) | apply LimI.other2 | apply IsInt.other2 | apply IsNat.other2 | apply Lim.other2 | (apply Blk.below; rotate_left; assumption) | (apply LimI.below; rotate_left; assumption) | (apply IsInt.below; rotate_left; assumption) | (apply Lim.below; rotate_left; assumption) | (apply IsNat.below; rotate_left; assumption)))) HN.out) (by refine limI_mk (b := true) (lit_two _ _ ?_ 0 2147483648 _ _ rfl rfl (by omega) (by omega)); first | rfl | (simp; done)) (by omega) (by omega)) ?_
  rintro e w2 ⟨rfl, hb2⟩
  have hz2 : w1.heap.size + 1 ≤ w2.heap.size := (by have hz := hb2.size; (try simp at hz); omega)
  have k2_x := Blk.below (g := w1.heap.size) (t := 41) (cs := #[.bool false, .slice A1 n1 c1]) (by repeat (first | (with_reducible first | assumption | (refine Hid.out ?_; assumption) | apply Blk.drew_) | ((with_reducible refine Blk.new _ _ ?_ _ _) <;> (first | rfl | (simp; done))) | (with_reducible first | refine Blk.alloc_ ?_ _ | apply Blk.own2 | refine Blk.other2 ?_ (by omega) | (apply Blk.below; rotate_left; assumption)))) hb2
  have p2_x := k2_x.cell0
  have d2_x : w1.heap.size < w2.heap.size := k2_x.lt
  have q2_x := k2_x.cell1
  have K2_x := Lib.hid k2_x; clear k2_x
  have x_2 := Lib.hid (show IsNat w2 (.slice A1 n1 c1) N from (by repeat (first | (with_reducible first | assumption | (refine Hid.out ?_; assumption) | apply Blk.drew_ | apply LimI.drew_ | apply IsInt.drew_ | apply Lim.drew_ | apply IsNat.drew_) | ((with_reducible refine Blk.new _ _ ?_ _ _) <;> (first | rfl | (simp; done))) | (with_reducible first | refine LimI.alloc_ ?_ _ | refine IsInt.alloc_ ?_ _ | refine Lim.alloc_ ?_ _ | refine IsNat.alloc_ ?_ _ | refine Blk.alloc_ ?_ _ | apply Blk.own2 | refine Blk.other2 ?_ (by omega) | apply LimI.other2 | apply IsInt.other2 | apply IsNat.other2 | apply Lim.other2 | (apply Blk.below; rotate_left; assumption) | (apply LimI.below; rotate_left; assumption) | (apply IsInt.below; rotate_left; assumption) | (apply Lim.below; rotate_left; assumption) | (apply IsNat.below; rotate_left; assumption)))))
  have HB2 := Lib.hid (show Below w.heap.size w w2 from (by repeat first | exact Below.refl _ _ | exact HB1.out | (with_reducible refine Below.trans ?_ (Below.mono (by with_reducible assumption) ?_)) | (with_reducible refine Below.alloc_ ?_ ?_ _) | (with_reducible refine Below.drew ?_) | (with_reducible refine Below.set2 ?_ ?_) | exact Nat.le_refl _ | omega | focus (simp <;> omega)))
  have hs2 : w.heap.size ≤ w2.heap.size := HB2.out.size
  clear K1_a fa_1 x_1 HB1 hb2
  go_wp2_with fail
  refine Calls.mono (li_rcmp_is (k := k) (l := 2) (X := sg b N) (Y := (sg false (4294967295 + 2147483647 * 4294967296))) s R2.out (by refine limI_dec (b := b) hp (by repeat (first | (with_reducible first | assumption | (refine Hid.out ?_; assumption) | apply Blk.drew_ | apply LimI.drew_ | apply IsInt.drew_ | apply Lim.drew_ | apply IsNat.drew_) | ((with_reducible refine Blk.new _ _ ?_ _ _) <;> (first | rfl | (simp; done))) | (with_reducible first | refine LimI.alloc_ ?_ _ | refine IsInt.alloc_ ?_ _ | refine Lim.alloc_ ?_ _ | refine IsNat.alloc_ ?_ _ | refine Blk.alloc_ ?_ _ | apply Blk.own2 | refine Blk.other2 ?_ (by omega) | apply LimI.other2 | apply IsInt.other2 | apply IsNat.other2 | apply Lim.other2 | (apply Blk.below; rotate_left; assumption) | (apply LimI.below; rotate_left; assumption) | (apply IsInt.below; rotate_left; assumption) | (apply Lim.below; rotate_left; assumption) | (apply IsNat.below; rotate_left; assumption)))) HN.out) (by refine limI_mk (b := false) (lit_two _ _ ?_ 4294967295 2147483647 _ _ rfl rfl (by omega) (by omega)); first | rfl | (simp; done)) (by omega) (by omega)) ?_
  rintro e w3 ⟨rfl, hb3⟩
  have hz3 : w2.heap.size ≤ w3.heap.size := (by have hz := hb3.size; (try simp at hz); omega)
  have k3_x := Blk.below (g := w1.heap.size) (t := 41) (cs := #[.bool false, .slice A1 n1 c1]) (by repeat (first | (with_reducible first | assumption | (refine Hid.out ?_; assumption) | apply Blk.drew_) | ((with_reducible refine Blk.new _ _ ?_ _ _) <;> (first | rfl | (simp; done))) | (with_reducible first | refine Blk.alloc_ ?_ _ | apply Blk.own2 | refine Blk.other2 ?_ (by omega) | (apply Blk.below; rotate_left; assumption)))) hb3
  have p3_x := k3_x.cell0
  have d3_x : w1.heap.size < w3.heap.size := k3_x.lt
  have q3_x := k3_x.cell1
  have K3_x := Lib.hid k3_x; clear k3_x
  have x_3 := Lib.hid (show IsNat w3 (.slice A1 n1 c1) N from (by repeat (first | (with_reducible first | assumption | (refine Hid.out ?_; assumption) | apply Blk.drew_ | apply LimI.drew_ | apply IsInt.drew_ | apply Lim.drew_ | apply IsNat.drew_) | ((with_reducible refine Blk.new _ _ ?_ _ _) <;> (first | rfl | (simp; done))) | (with_reducible first | refine LimI.alloc_ ?_ _ | refine IsInt.alloc_ ?_ _ | refine Lim.alloc_ ?_ _ | refine IsNat.alloc_ ?_ _ | refine Blk.alloc_ ?_ _ | apply Blk.own2 | refine Blk.other2 ?_ (by omega) | apply LimI.other2 | apply IsInt.other2 | apply IsNat.other2 | apply Lim.other2 | (apply Blk.below; rotate_left; assumption) | (apply LimI.below; rotate_left; assumption) | (apply IsInt.below; rotate_left; assumption) | (apply Lim.below; rotate_left; assumption) | (apply IsNat.below; rotate_left; assumption)))))
  have HB3 := Lib.hid (show Below w.heap.size w w3 from (by repeat first | exact Below.refl _ _ | exact HB2.out | (with_reducible refine Below.trans ?_ (Below.mono (by with_reducible assumption) ?_)) | (with_reducible refine Below.alloc_ ?_ ?_ _) | (with_reducible refine Below.drew ?_) | (with_reducible refine Below.set2 ?_ ?_) | exact Nat.le_refl _ | omega | focus (simp <;> omega)))
  have hs3 : w.heap.size ≤ w3.heap.size := HB3.out.size
  clear K2_x x_2 HB2 hb3
  have hnf : ∃ f, Rd .u32 w3 A1 n1 f ∧ (∀ j, j < n1 → f j < 4294967296) ∧ num 4294967296 f n1 = N := by
    obtain ⟨A', n', c', f, e, _, h2, h3, _, h5⟩ := x_3.out
    injection e with e1 e2 e3
    subst e1 e2
    exact ⟨f, h2, h3, h5⟩
  obtain ⟨f, hrd, hfl, hnum⟩ := hnf
  have HRD := Lib.hid hrd
  have HFL := Lib.hid hfl
  have HNUM := Lib.hid hnum
  have hlen : Hid (n1 ≤ 1000000) := by
    obtain ⟨A', n', c', f', e, _, h2, h3, h4, h5⟩ := x_3.out
    injection e with e1 e2 e3
    subst e2
    have := h4.len (B := 4294967296) (by omega) (k := k) (by rw [h5]; exact HN.out)
    show _ ≤ _
    omega
  have hn0 : (n1 : Int) ≤ 1000000 := by have := hlen.out; omega
  have KX := Lib.hid (K3_x.out)
  have hx0 := KX.out.cell0
  have hx1 := KX.out.cell1
  clear hrd hfl hnum
  go_wp2
  go_loopw [5, 6] (fun v5 v6 wr => ∃ i : Nat, v5 = .int .i64 (((topN f n1 i : Nat) : Int)) ∧ v6 = .int .i64 ((i : Int) - 1) ∧ i ≤ n1 ∧ wr = w3) (fun _ v6 _ => (intOf v6 + 1).toNat)
  case atStart => exact ⟨n1, by rw [topN_end]; rfl, rfl, Nat.le_refl _, rfl⟩
  case round =>
    obtain ⟨i, rfl, rfl, hi, rfl⟩ := hrel
    by_cases h0 : 0 < i
    · obtain ⟨i, rfl⟩ : ∃ j, i = j + 1 := ⟨i - 1, by omega⟩
      rw [show ((i + 1 : Nat) : Int) - 1 = (i : Int) from by omega]
      obtain ⟨ad, rfl, hcell⟩ := HRD.out i (by omega)
      have hst := topN_step f (show i < n1 by omega)
      have hle : topN f n1 i ≤ N := by rw [← HNUM.out]; exact topN_le f (by omega)
      have hN2 := HNN.out
      have HST := Lib.hid hst
      have hfi := HFL.out i (by omega)
      generalize topN f n1 (i + 1) = Q at *
      generalize hZ : topN f n1 i = Z at *
      have HZ := Lib.hid hZ
      clear hZ
      generalize f i = d at *
      have hi0 : (0 : Int) ≤ (i : Int) := by omega
      have hit : (i : Int) < (n1 : Int) := by omega
      have w1 : IntKind.i64.wrap ((Q : Int) * 65536) = (Q : Int) * 65536 := IntWalk.i64_in _ (by omega)
      have w2 : IntKind.i64.wrap ((Q : Int) * 65536 * 65536) = (Q : Int) * 65536 * 65536 := IntWalk.i64_in _ (by omega)
      have w3 : IntKind.i64.wrap (d : Int) = (d : Int) := IntWalk.i64_in _ (by omega)
      have w4 : IntKind.i64.wrap ((Q : Int) * 65536 * 65536 + (d : Int)) = (Q : Int) * 65536 * 65536 + (d : Int) := IntWalk.i64_in _ (by omega)
      clear hst hle hN2 hfi
      go_wp2
      go_roundw
      case rel => exact ⟨i, by rw [HZ.out]; congr 1; have := HST.out; omega, rfl, by omega, (by first | rfl | trivial)⟩
      case measure => simp [intOf]
    · obtain rfl : i = 0 := by omega
      have hsv : ((topN f n1 0 : Nat) : Int) = sg b N := by rw [topN_all, HNUM.out, HSG.out]; rfl
      rw [hsv]
      go_wp2
      exact bodyPost_ret (v := .tuple #[.int .i64 (sg b N), .bool true]) (by simp [results, Try.results48, go_sem]) rfl ⟨rfl, HB3.out⟩

set_option maxRecDepth 100000 in
set_option maxHeartbeats 4000000 in
theorem rsmall_t (b : Bool) (A : Option Addr) (n c N k : Nat) (w : World) (h : Lim k w (.slice A n c) N) (hk : k ≤ 100000) (hp : decide (sg b N < 0) = true) (hX : -9223372036854775808 ≤ sg b N ∧ sg b N ≤ 9223372036854775807) :
    Calls Try.prog 48 #[.agg #[.bool b, .slice A n c]] w fun e w' => e = .returned (.tuple #[.int .i64 (sg b N), .bool true]) ∧ Below w.heap.size w w' := by
  have HN := Lib.hid h.lt
  have F0 := Lib.hid (limI_mk (b := b) h)
  have hsg : sg b N = sg true N := by rw [← hp, sg_dec]
  have HSG := Lib.hid hsg
  have hNN : (N : Int) ≤ 9223372036854775808 := by rw [hsg] at hX; unfold sg at hX; simp at hX; omega
  obtain ⟨r, hr⟩ : ∃ r, cmpI (sg b N) (sg true (0 + 2147483648 * 4294967296)) = r := ⟨_, rfl⟩
  obtain ⟨s, hs⟩ : ∃ r, cmpI (sg b N) (sg false (4294967295 + 2147483647 * 4294967296)) = r := ⟨_, rfl⟩
  have r0 : 0 ≤ r := by
    rw [← hr]
    unfold cmpI
    rw [if_neg (by show ¬ _ < -(_ : Int); omega)]
    split <;> omega
  have s0 : s ≤ 0 := by
    rw [← hs]
    unfold cmpI
    by_cases hq : sg b N < (sg false (4294967295 + 2147483647 * 4294967296))
    · rw [if_pos hq]; omega
    · have : sg b N = (sg false (4294967295 + 2147483647 * 4294967296)) := by
        have h1 : ¬ sg b N < ((4294967295 + 2147483647 * 4294967296 : Nat) : Int) := hq
        show _ = ((4294967295 + 2147483647 * 4294967296 : Nat) : Int)
        omega
      rw [if_neg hq, if_pos this]; omega
  have r0n : ¬ r < 0 := by omega
  have r0d : decide (r < 0) = false := decide_eq_false (by omega)
  have s0d : decide (0 < s) = false := decide_eq_false (by omega)
  have R1 := Lib.hid hr
  have R2 := Lib.hid hs
  have HNN := Lib.hid hNN
  clear hr hs hX hsg hNN
  clear h
  go_enter Try.func48, Try.ntmps48
  go_wp2_with fail
  refine Calls.mono (li_rplain (k := k) (X := sg b N) (by repeat (first | (with_reducible first | assumption | (refine Hid.out ?_; assumption) | apply Blk.drew_ | apply LimI.drew_ | apply IsInt.drew_ | apply Lim.drew_ | apply IsNat.drew_) | ((with_reducible refine Blk.new _ _ ?_ _ _) <;> (first | rfl | (simp; done))) | (with_reducible first | refine LimI.alloc_ ?_ _ | refine IsInt.alloc_ ?_ _ | refine Lim.alloc_ ?_ _ | refine IsNat.alloc_ ?_ _ | refine Blk.alloc_ ?_ _ | apply Blk.own2 | refine Blk.other2 ?_ (by omega) | apply LimI.other2 | apply IsInt.other2 | apply IsNat.other2 | apply Lim.other2 | (apply Blk.below; rotate_left; assumption) | (apply LimI.below; rotate_left; assumption) | (apply IsInt.below; rotate_left; assumption) | (apply Lim.below; rotate_left; assumption) | (apply IsNat.below; rotate_left; assumption)))) (by omega)) ?_
  rintro e w1 ⟨v1, rfl, h1, hb1⟩
  obtain ⟨m1, rfl, h1⟩ := h1
  rw [sg_abs] at h1
  rw [hp]
  obtain ⟨A1, n1, c1, rfl, hn1, h1⟩ := isNat_form h1
  have hz1 : w.heap.size + 1 ≤ w1.heap.size := (by have hz := hb1.size; (try simp at hz); omega)
  have k1_a := Blk.below (g := w.heap.size) (t := 41) (cs := #[.bool b, .slice A n c]) (by repeat (first | (with_reducible first | assumption | (refine Hid.out ?_; assumption) | apply Blk.drew_) | ((with_reducible refine Blk.new _ _ ?_ _ _) <;> (first | rfl | (simp; done))) | (with_reducible first | refine Blk.alloc_ ?_ _ | apply Blk.own2 | refine Blk.other2 ?_ (by omega) | (apply Blk.below; rotate_left; assumption)))) hb1
  have p1_a := k1_a.cell0
  have d1_a : w.heap.size < w1.heap.size := k1_a.lt
  have q1_a := k1_a.cell1
  have K1_a := Lib.hid k1_a; clear k1_a
  have fa_1 := Lib.hid (show LimI k w1 (.agg #[.bool b, .slice A n c]) (sg b N) from (by repeat (first | (with_reducible first | assumption | (refine Hid.out ?_; assumption) | apply Blk.drew_ | apply LimI.drew_ | apply IsInt.drew_ | apply Lim.drew_ | apply IsNat.drew_) | ((with_reducible refine Blk.new _ _ ?_ _ _) <;> (first | rfl | (simp; done))) | (with_reducible first | refine LimI.alloc_ ?_ _ | refine IsInt.alloc_ ?_ _ | refine Lim.alloc_ ?_ _ | refine IsNat.alloc_ ?_ _ | refine Blk.alloc_ ?_ _ | apply Blk.own2 | refine Blk.other2 ?_ (by omega) | apply LimI.other2 | apply IsInt.other2 | apply IsNat.other2 | apply Lim.other2 | (apply Blk.below; rotate_left; assumption) | (apply LimI.below; rotate_left; assumption) | (apply IsInt.below; rotate_left; assumption) | (apply Lim.below; rotate_left; assumption) | (apply IsNat.below; rotate_left; assumption)))))
  have x_1 := Lib.hid (show IsNat w1 (.slice A1 n1 c1) N from h1)
  have HB1 := Lib.hid (show Below w.heap.size w w1 from (by repeat first | exact Below.refl _ _ | (with_reducible refine Below.trans ?_ (Below.mono (by with_reducible assumption) ?_)) | (with_reducible refine Below.alloc_ ?_ ?_ _) | (with_reducible refine Below.drew ?_) | (with_reducible refine Below.set2 ?_ ?_) | exact Nat.le_refl _ | omega | focus (simp <;> omega)))
  have hs1 : w.heap.size ≤ w1.heap.size := HB1.out.size
  clear hb1
  go_wp2_with fail
  refine Calls.mono (li_rcmp_is (k := k) (l := 2) (X := sg b N) (Y := (sg true (0 + 2147483648 * 4294967296))) r R1.out (by refine limI_dec (b := b) hp (by repeat (first | (with_reducible first | assumption | (refine Hid.out ?_; assumption) | apply Blk.drew_ | apply LimI.drew_ | apply IsInt.drew_ | apply Lim.drew_ | apply IsNat.drew_) | ((with_reducible refine Blk.new _ _ ?_ _ _) <;> (first | rfl | (simp; done))) | (with_reducible first | refine LimI.alloc_ ?_ _ | refine IsInt.alloc_ ?_ _ | refine Lim.alloc_ ?_ _ | refine IsNat.alloc_ ?_ _ | refine Blk.alloc_ ?_ _ | apply Blk.own2 | refine Blk.other2 ?_ (by omega) | apply LimI.other2 | apply IsInt.other2 | apply IsNat.other2 | apply Lim.other2 | (apply Blk.below; rotate_left; assumption) | (apply LimI.below; rotate_left; assumption) | (apply IsInt.below; rotate_left; assumption) | (apply Lim.below; rotate_left; assumption) | (apply IsNat.below; rotate_left; assumption)))) HN.out) (by refine limI_mk (b := true) (lit_two _ _ ?_ 0 2147483648 _ _ rfl rfl (by omega) (by omega)); first | rfl | (simp; done)) (by omega) (by omega)) ?_
  rintro e w2 ⟨rfl, hb2⟩
  have hz2 : w1.heap.size + 1 ≤ w2.heap.size := (by have hz := hb2.size; (try simp at hz); omega)
  have k2_x := Blk.below (g := w1.heap.size) (t := 41) (cs := #[.bool true, .slice A1 n1 c1]) (by repeat (first | (with_reducible first | assumption | (refine Hid.out ?_; assumption) | apply Blk.drew_) | ((with_reducible refine Blk.new _ _ ?_ _ _) <;> (first | rfl | (simp; done))) | (with_reducible first | refine Blk.alloc_ ?_ _ | apply Blk.own2 | refine Blk.other2 ?_ (by omega) | (apply Blk.below; rotate_left; assumption)))) hb2
  have p2_x := k2_x.cell0
  have d2_x : w1.heap.size < w2.heap.size := k2_x.lt
  have q2_x := k2_x.cell1
  have K2_x := Lib.hid k2_x; clear k2_x
  have x_2 := Lib.hid (show IsNat w2 (.slice A1 n1 c1) N from (by repeat (first | (with_reducible first | assumption | (refine Hid.out ?_; assumption) | apply Blk.drew_ | apply LimI.drew_ | apply IsInt.drew_ | apply Lim.drew_ | apply IsNat.drew_) | ((with_reducible refine Blk.new _ _ ?_ _ _) <;> (first | rfl | (simp; done))) | (with_reducible first | refine LimI.alloc_ ?_ _ | refine IsInt.alloc_ ?_ _ | refine Lim.alloc_ ?_ _ | refine IsNat.alloc_ ?_ _ | refine Blk.alloc_ ?_ _ | apply Blk.own2 | refine Blk.other2 ?_ (by omega) | apply LimI.other2 | apply IsInt.other2 | apply IsNat.other2 | apply Lim.other2 | (apply Blk.below; rotate_left; assumption) | (apply LimI.below; rotate_left; assumption) | (apply IsInt.below; rotate_left; assumption) | (apply Lim.below; rotate_left; assumption) | (apply IsNat.below; rotate_left; assumption)))))
  have HB2 := Lib.hid (show Below w.heap.size w w2 from (by repeat first | exact Below.refl _ _ | exact HB1.out | (with_reducible refine Below.trans ?_ (Below.mono (by with_reducible assumption) ?_)) | (with_reducible refine Below.alloc_ ?_ ?_ _) | (with_reducible refine Below.drew ?_) | (with_reducible refine Below.set2 ?_ ?_) | exact Nat.le_refl _ | omega | focus (simp <;> omega)))
  have hs2 : w.heap.size ≤ w2.heap.size := HB2.out.size
  clear K1_a fa_1 x_1 HB1 hb2
  go_wp2_with fail
  refine Calls.mono (li_rcmp_is (k := k) (l := 2) (X := sg b N) (Y := (sg false (4294967295 + 2147483647 * 4294967296))) s R2.out (by refine limI_dec (b := b) hp (by repeat (first | (with_reducible first | assumption | (refine Hid.out ?_; assumption) | apply Blk.drew_ | apply LimI.drew_ | apply IsInt.drew_ | apply Lim.drew_ | apply IsNat.drew_) | ((with_reducible refine Blk.new _ _ ?_ _ _) <;> (first | rfl | (simp; done))) | (with_reducible first | refine LimI.alloc_ ?_ _ | refine IsInt.alloc_ ?_ _ | refine Lim.alloc_ ?_ _ | refine IsNat.alloc_ ?_ _ | refine Blk.alloc_ ?_ _ | apply Blk.own2 | refine Blk.other2 ?_ (by omega) | apply LimI.other2 | apply IsInt.other2 | apply IsNat.other2 | apply Lim.other2 | (apply Blk.below; rotate_left; assumption) | (apply LimI.below; rotate_left; assumption) | (apply IsInt.below; rotate_left; assumption) | (apply Lim.below; rotate_left; assumption) | (apply IsNat.below; rotate_left; assumption)))) HN.out) (by refine limI_mk (b := false) (lit_two _ _ ?_ 4294967295 2147483647 _ _ rfl rfl (by omega) (by omega)); first | rfl | (simp; done)) (by omega) (by omega)) ?_
  rintro e w3 ⟨rfl, hb3⟩
  have hz3 : w2.heap.size ≤ w3.heap.size := (by have hz := hb3.size; (try simp at hz); omega)
  have k3_x := Blk.below (g := w1.heap.size) (t := 41) (cs := #[.bool true, .slice A1 n1 c1]) (by repeat (first | (with_reducible first | assumption | (refine Hid.out ?_; assumption) | apply Blk.drew_) | ((with_reducible refine Blk.new _ _ ?_ _ _) <;> (first | rfl | (simp; done))) | (with_reducible first | refine Blk.alloc_ ?_ _ | apply Blk.own2 | refine Blk.other2 ?_ (by omega) | (apply Blk.below; rotate_left; assumption)))) hb3
  have p3_x := k3_x.cell0
  have d3_x : w1.heap.size < w3.heap.size := k3_x.lt
  have q3_x := k3_x.cell1
  have K3_x := Lib.hid k3_x; clear k3_x
  have x_3 := Lib.hid (show IsNat w3 (.slice A1 n1 c1) N from (by repeat (first | (with_reducible first | assumption | (refine Hid.out ?_; assumption) | apply Blk.drew_ | apply LimI.drew_ | apply IsInt.drew_ | apply Lim.drew_ | apply IsNat.drew_) | ((with_reducible refine Blk.new _ _ ?_ _ _) <;> (first | rfl | (simp; done))) | (with_reducible first | refine LimI.alloc_ ?_ _ | refine IsInt.alloc_ ?_ _ | refine Lim.alloc_ ?_ _ | refine IsNat.alloc_ ?_ _ | refine Blk.alloc_ ?_ _ | apply Blk.own2 | refine Blk.other2 ?_ (by omega) | apply LimI.other2 | apply IsInt.other2 | apply IsNat.other2 | apply Lim.other2 | (apply Blk.below; rotate_left; assumption) | (apply LimI.below; rotate_left; assumption) | (apply IsInt.below; rotate_left; assumption) | (apply Lim.below; rotate_left; assumption) | (apply IsNat.below; rotate_left; assumption)))))
  have HB3 := Lib.hid (show Below w.heap.size w w3 from (by repeat first | exact Below.refl _ _ | exact HB2.out | (with_reducible refine Below.trans ?_ (Below.mono (by with_reducible assumption) ?_)) | (with_reducible refine Below.alloc_ ?_ ?_ _) | (with_reducible refine Below.drew ?_) | (with_reducible refine Below.set2 ?_ ?_) | exact Nat.le_refl _ | omega | focus (simp <;> omega)))
  have hs3 : w.heap.size ≤ w3.heap.size := HB3.out.size
  clear K2_x x_2 HB2 hb3
  have hnf : ∃ f, Rd .u32 w3 A1 n1 f ∧ (∀ j, j < n1 → f j < 4294967296) ∧ num 4294967296 f n1 = N := by
    obtain ⟨A', n', c', f, e, _, h2, h3, _, h5⟩ := x_3.out
    injection e with e1 e2 e3
    subst e1 e2
    exact ⟨f, h2, h3, h5⟩
  obtain ⟨f, hrd, hfl, hnum⟩ := hnf
  have HRD := Lib.hid hrd
  have HFL := Lib.hid hfl
  have HNUM := Lib.hid hnum
  have hlen : Hid (n1 ≤ 1000000) := by
    obtain ⟨A', n', c', f', e, _, h2, h3, h4, h5⟩ := x_3.out
    injection e with e1 e2 e3
    subst e2
    have := h4.len (B := 4294967296) (by omega) (k := k) (by rw [h5]; exact HN.out)
    show _ ≤ _
    omega
  have hn0 : (n1 : Int) ≤ 1000000 := by have := hlen.out; omega
  have KX := Lib.hid (K3_x.out)
  have hx0 := KX.out.cell0
  have hx1 := KX.out.cell1
  clear hrd hfl hnum
  go_wp2
  go_loopw [5, 6] (fun v5 v6 wr => ∃ i : Nat, v5 = .int .i64 ((-((topN f n1 i : Nat) : Int))) ∧ v6 = .int .i64 ((i : Int) - 1) ∧ i ≤ n1 ∧ wr = w3) (fun _ v6 _ => (intOf v6 + 1).toNat)
  case atStart => exact ⟨n1, by rw [topN_end]; rfl, rfl, Nat.le_refl _, rfl⟩
  case round =>
    obtain ⟨i, rfl, rfl, hi, rfl⟩ := hrel
    by_cases h0 : 0 < i
    · obtain ⟨i, rfl⟩ : ∃ j, i = j + 1 := ⟨i - 1, by omega⟩
      rw [show ((i + 1 : Nat) : Int) - 1 = (i : Int) from by omega]
      obtain ⟨ad, rfl, hcell⟩ := HRD.out i (by omega)
      have hst := topN_step f (show i < n1 by omega)
      have hle : topN f n1 i ≤ N := by rw [← HNUM.out]; exact topN_le f (by omega)
      have hN2 := HNN.out
      have HST := Lib.hid hst
      have hfi := HFL.out i (by omega)
      generalize topN f n1 (i + 1) = Q at *
      generalize hZ : topN f n1 i = Z at *
      have HZ := Lib.hid hZ
      clear hZ
      generalize f i = d at *
      have hi0 : (0 : Int) ≤ (i : Int) := by omega
      have hit : (i : Int) < (n1 : Int) := by omega
      have w1 : IntKind.i64.wrap (-(Q : Int) * 65536) = -(Q : Int) * 65536 := IntWalk.i64_in _ (by omega)
      have w2 : IntKind.i64.wrap (-(Q : Int) * 65536 * 65536) = -(Q : Int) * 65536 * 65536 := IntWalk.i64_in _ (by omega)
      have w3 : IntKind.i64.wrap (d : Int) = (d : Int) := IntWalk.i64_in _ (by omega)
      have w4 : IntKind.i64.wrap (-(Q : Int) * 65536 * 65536 - (d : Int)) = -(Q : Int) * 65536 * 65536 - (d : Int) := IntWalk.i64_in _ (by omega)
      clear hst hle hN2 hfi
      go_wp2
      go_roundw
      case rel => exact ⟨i, by rw [HZ.out]; congr 1; have := HST.out; omega, rfl, by omega, (by first | rfl | trivial)⟩
      case measure => simp [intOf]
    · obtain rfl : i = 0 := by omega
      have hsv : (-((topN f n1 0 : Nat) : Int)) = sg b N := by rw [topN_all, HNUM.out, HSG.out]; rfl
      rw [hsv]
      go_wp2
      exact bodyPost_ret (v := .tuple #[.int .i64 (sg b N), .bool true]) (by simp [results, Try.results48, go_sem]) rfl ⟨rfl, HB3.out⟩

theorem li_rsmall {k : Nat} {w : World} {v : Value} {X : Int} (h : LimI k w v X) (hk : k ≤ 100000) : Calls Try.prog 48 #[v] w fun e w' => SmallPost w w' e X := by
  obtain ⟨b, m, N, rfl, ⟨A, n, c, f, rfl, hr⟩, rfl⟩ := h
  have L : Lim k w (.slice A n c) N := ⟨A, n, c, f, rfl, hr⟩
  unfold SmallPost
  by_cases hX : -9223372036854775808 ≤ sg b N ∧ sg b N ≤ 9223372036854775807
  · rw [(small_yes hX).1, (small_yes hX).2]
    cases hp : decide (sg b N < 0)
    · exact rsmall_f b A n c N k w L hk hp hX
    · exact rsmall_t b A n c N k w L hk hp hX
  · rw [(small_no hX).1, (small_no hX).2]
    by_cases hl : sg b N < -9223372036854775808
    · exact rsmall_low b A n c N k w L hk hl
    · exact rsmall_high b A n c N k w L hk (by omega)
end Go.Proofs.Ythndfmpnfgbioaa
