/- Contracts of the document's own whole numbers: Text, Small. -/
import Derived.Test.YtglcififcldchaaGreatDoorWm
import Derived.IntWalk
namespace Go.Proofs.YtglcififcldchaaGreatDoor
open Go.RowKit
attribute [local go_sem ↓] Go.wp_at_zero Go.wp_at_succ
set_option linter.unusedVariables false

theorem cmpI_lt {X Y : Int} (h : X < Y) : cmpI X Y = -1 := if_pos h
theorem cmpI_gt {X Y : Int} (h : Y < X) : cmpI X Y = 1 := by unfold cmpI; rw [if_neg (by omega), if_neg (by omega)]

set_option maxRecDepth 100000 in
theorem field_neg (b : Bool) (A : Option Addr) (n c : Nat) (w : World) : Sem.run Tryz.prog (Instr.field 24 (.agg #[.bool b, .slice A n c]) 0) w = .ok (.bool b) w := by
  simp [Instr.field, asAgg, go_sem]
set_option maxRecDepth 100000 in
set_option maxHeartbeats 1000000 in
theorem li_rtext {k : Nat} {w : World} {v : Value} {X : Int} (h : LimI k w v X) (hk : k ≤ 1000) : Calls Tryz.prog 87 #[v] w fun e w' => e = .returned (.string (textI X)) ∧ Below w.heap.size w w' := by
  obtain ⟨b, m, N, rfl, ⟨A, n, c, f, rfl, hr⟩, rfl⟩ := h
  have H : Lim k w (.slice A n c) N := ⟨A, n, c, f, rfl, hr⟩
  have HL := Lib.hid H
  have HT : Hid (textI (sg b N) = if decide (sg b N < 0) then dash ++ decS N else decS N) := by
    show textI _ = _
    unfold textI
    rw [sg_abs]
    by_cases h0 : sg b N < 0 <;> simp [h0]
  have hsz := decS_size H.lt hk
  have CB := Lib.hid (fun W (hW : Lim k W (.slice A n c) N) => li_rplain (k := k) (limI_mk (b := b) hW) (by omega))
  have hcat := fun wq => run_string_add (P := Tryz.prog) wq dash (decS N) (by show 1 ≤ _; omega) (by omega)
  unfold dash at hcat
  clear hr H
  cases hbl : decide (sg b N < 0)
  all_goals
    unfold IntPost IsInt at CB
    rw [hbl] at CB HT
    clear hbl
    have hfl := fun b A n c w => field_neg b A n c w
    go_enter Tryz.func87, Tryz.ntmps87
    go_wp2_with fail
    refine Calls.mono (CB.out _ (HL.out.alloc_ _)) ?_
    rintro e w1 ⟨v1, rfl, ⟨m1, rfl, h1⟩, hb1⟩
    obtain ⟨A1, n1, c1, rfl, hn1, h1⟩ := isNat_form h1
    obtain ⟨hc1, hf1⟩ := bcell hb1
    have hz1 : w.heap.size < w1.heap.size := by have := hb1.size; simp at this; omega
    have HL1 := Lib.hid ((HL.out.alloc_ (.cells #[.bool b, .slice A n c] 24)).below hb1)
    have HB1 := Lib.hid (show Below w.heap.size w w1 from (below_new w _).trans (hb1.mono (by simp)))
    clear hb1 CB h1 hn1
    go_wp2_with fail
    refine Calls.mono (rtext_any HL1.out hk) ?_
    rintro e w2 ⟨rfl, hb2⟩
    have HB2 := Lib.hid (below_trans HB1.out hb2)
    clear hb2 HB1
    go_wp2
    go_ret
    exact ⟨by rw [HT.out]; rfl, HB2.out⟩

theorem limI_dec {k : Nat} {w : World} {m : Value} {b p : Bool} {N : Nat} (hp : decide (sg b N < 0) = p) (h : IsNat w m N) (hN : N < 4294967296 ^ k) : LimI k w (.agg #[.bool p, m]) (sg b N) :=
  ⟨p, m, N, rfl, h.lim hN, by rw [← hp, sg_dec]⟩
/-- The limbs from j on. -/
def topN (f : Nat → Nat) (n j : Nat) : Nat := num 4294967296 (fun i => f (j + i)) (n - j)
theorem topN_end (f : Nat → Nat) (n : Nat) : topN f n n = 0 := by unfold topN; rw [Nat.sub_self]; rfl
theorem topN_all (f : Nat → Nat) (n : Nat) : topN f n 0 = num 4294967296 f n := by unfold topN; exact num_congr _ fun j _ => by rw [Nat.zero_add]
theorem topN_step (f : Nat → Nat) {n j : Nat} (h : j < n) : topN f n j = topN f n (j + 1) * 4294967296 + f j := by
  unfold topN
  rw [num_first (by omega)]
  have e : (fun i => f (j + (i + 1))) = fun i => f (j + 1 + i) := funext fun i => by congr 1; omega
  simp only [e, Nat.add_zero]
  rw [show n - j - 1 = n - (j + 1) from by omega, Nat.mul_comm, Nat.add_comm]
theorem topN_le (f : Nat → Nat) {n j : Nat} (h : j ≤ n) : topN f n j ≤ num 4294967296 f n := by
  have e : num 4294967296 f n = num 4294967296 f (j + (n - j)) := by rw [show j + (n - j) = n from by omega]
  rw [e, num_add]
  have hp : 0 < 4294967296 ^ j := Nat.pow_pos (by omega)
  have : 1 * topN f n j ≤ 4294967296 ^ j * topN f n j := Nat.mul_le_mul_right _ hp
  unfold topN at *
  omega

end Go.Proofs.YtglcififcldchaaGreatDoor
