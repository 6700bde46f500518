/- Contracts: the document's Seal and Open. -/
import Derived.Test.YteeomidlnijfbaaPCf
import Derived.Deep.RegionHeld3
namespace Go.Proofs.Yteeomidlnijfbaa
open Go.RowKit

theorem el8 : Try.prog.underlying 35 = some (.slice (Try.prog.elem 35)) := by kernel_rfl
theorem sz8 (w : World) : (sizeOf (Try.prog.elem 35)).run Try.prog w = .ok 1 w := by kernel_rfl
theorem rest_at (ad : Addr) (n c l : Nat) (f : Nat → Nat) (w : World) (ha : Rd .u8 w (some ad) n f) (hc : n ≤ c) (hl : l ≤ n) :
    ∃ B : Addr, (∀ (wq : World) (L : Int), L = l → (Instr.slice 35 (.slice (some ad) n c) (some (.int .i64 L)) none none).run Try.prog wq = .ok (.slice (some B) (n - l) (c - l)) wq) ∧ Rd .u8 w (some B) (n - l) (fun j => f (l + j)) := by
  refine ⟨if c = l then ad else ad.add l, fun wq L hL => ?_, ?_⟩
  · subst hL
    rw [run_slice_l wq 35 (some ad) n c el8 .i64 l (by omega) (by omega), sz8]
    simp only [Result.andThen, sliced, Int.toNat_natCast, Nat.mul_one, Option.map_some]
    split <;> rfl
  · by_cases h : c = l
    · obtain rfl : l = n := by omega
      rw [Nat.sub_self]
      exact Rd.zero
    · rw [if_neg h]
      exact ha.drop hl

def four (a b c d : Nat) : Nat → Nat := fun j => if j = 0 then a else if j = 1 then b else if j = 2 then c else d
theorem own_four8 (w : World) (a b c d : Nat) : Own .u8 5 (w.alloc (.cells #[.int .u8 (a : Nat), .int .u8 (b : Nat), .int .u8 (c : Nat), .int .u8 (d : Nat)] 5)) w.heap.size (.slice (some ⟨w.heap.size, 0, none⟩) 4 4) 4 (four a b c d) :=
  World.ownsRow_lit w _ 4 (Nat.le_refl _) (by simp only [maxLen]; omega) rfl
theorem own_seal8 (w : World) (s : Nat) (f : Nat → Nat) (hs : s < 4294967296) : Own .u8 5 (w.alloc (.cells #[.int .u8 ((s : Int) % 256), .int .u8 ((s : Int) / 256 % 256), .int .u8 ((s : Int) / 65536 % 256), .int .u8 ((s : Int) / 16777216)] 5)) w.heap.size (.slice (some ⟨w.heap.size, 0, none⟩) 4 4) 4 (sealF s f) :=
  (own_four8 w (s % 256) (s / 256 % 256) (s / 65536 % 256) (s / 16777216)).congr fun j hj => by
    unfold four sealF
    rw [if_pos hj]
    have : j = 0 ∨ j = 1 ∨ j = 2 ∨ j = 3 := by omega
    rcases this with rfl | rfl | rfl | rfl
    · simp
    · simp
    · simp
    · simp; omega

set_option maxRecDepth 100000 in
set_option maxHeartbeats 2000000 in
theorem rseal_any (A : Option Addr) (n c : Nat) (f : Nat → Nat) (w : World) (hr : Rd .u8 w A n f) (hf : ∀ j, j < n → f j < 256) (hn : n ≤ 1000000) (hA : A = none → n = 0 ∧ c = 0) :
    Calls Try.prog 83 #[.slice A n c] w fun e w' => SealPost w w' e n f := by
  have HR := Lib.hid hr
  have HF := Lib.hid hf
  have HA := Lib.hid hA
  clear hr hf hA
  go_enter Try.func83, Try.ntmps83
  have hSl := crcN_lt (f := f) (n := n) HF.out
  have hsum := rsum_any A n c f w HR.out HF.out (by omega)
  generalize hS : crcN f n = S at *
  have HS := Lib.hid hS
  have HSM := Lib.hid hsum
  clear hS hsum
  have hown := own_seal8 w S f hSl
  have HB := Lib.hid (below_new w (.cells #[.int .u8 ((S : Int) % 256), .int .u8 ((S : Int) / 256 % 256), .int .u8 ((S : Int) / 65536 % 256), .int .u8 ((S : Int) / 16777216)] 5))
  have hrd := HR.out.below HB.out
  go_wp2_with (first | (go_at_call 89; refine HSM.out.mono ?_; rintro e w' ⟨rfl, rfl⟩) | (at_builtin; refine wpList_app rfl (.tmp 20) (.tmp 21) 35 rfl .u8 5 Try.underlying35 1 u8_info (by omega) w.heap.size _ 4 (sealF S f) rfl hown A n c f rfl hrd HA.out (by omega) (by simp) ?_; intro v2 w5 hown2 hb2 hsz2; have HO2 := Lib.hid hown2; have HB2 := Lib.hid (HB.out.trans hb2); clear hown hrd hown2 hb2 hsz2))
  go_ret
  refine ⟨v2, rfl, ?_, HB2.out⟩
  rw [HS.out]
  exact own_byt (HO2.out.congr fun j hj => by unfold appF sealF; by_cases h4 : j < 4 <;> simp [h4]) (sealF_lt HF.out)

def OpenB (f : Nat → Nat) (n : Nat) : Bool := decide (4 ≤ n ∧ num 256 f 4 = crcN (fun j => f (4 + j)) (n - 4))
def OpenYes (w w' : World) (e : Ending) (n : Nat) (f : Nat → Nat) : Prop := ∃ v, e = .returned (.tuple #[v, .bool true]) ∧ Byt w' v (n - 4) (fun j => f (4 + j)) ∧ Below w.heap.size w w' ∧ Typ8 w' v
def OpenNo (w w' : World) (e : Ending) : Prop := e = .returned (.tuple #[.slice none 0 0, .bool false]) ∧ Below w.heap.size w w'
def OpenPost (w w' : World) (e : Ending) (n : Nat) (f : Nat → Nat) : Prop := (OpenB f n = true ∧ OpenYes w w' e n f) ∨ (OpenB f n = false ∧ OpenNo w w' e)
theorem four_num {f : Nat → Nat} {S : Nat} (hf : ∀ j, j < 4 → f j < 256) (hS : S < 4294967296) : num 256 f 4 = S ↔ ∀ j, j < 4 → f j = S / 256 ^ j % 256 := by
  have e : num 256 f 4 = f 0 + f 1 * 256 + f 2 * 65536 + f 3 * 16777216 := by simp [num]
  have h0 := hf 0 (by omega)
  have h1 := hf 1 (by omega)
  have h2 := hf 2 (by omega)
  have h3 := hf 3 (by omega)
  rw [e]
  constructor
  · intro h j hj
    have : j = 0 ∨ j = 1 ∨ j = 2 ∨ j = 3 := by omega
    rcases this with rfl | rfl | rfl | rfl
    · simp; omega
    · simp; omega
    · simp; omega
    · simp; omega
  · intro h
    have q0 := h 0 (by omega)
    have q1 := h 1 (by omega)
    have q2 := h 2 (by omega)
    have q3 := h 3 (by omega)
    simp at q0 q1 q2 q3
    omega
theorem openB_few {f : Nat → Nat} {n : Nat} (h : n < 4) : OpenB f n = false := by
  unfold OpenB
  rw [decide_eq_false_iff_not]
  omega

end Go.Proofs.Yteeomidlnijfbaa

/- Contract: Open. -/
namespace Go.Proofs.Yteeomidlnijfbaa
open Go.RowKit

theorem openB_is {f : Nat → Nat} {n : Nat} (h : 4 ≤ n) : OpenB f n = decide (num 256 f 4 = crcN (fun j => f (4 + j)) (n - 4)) := by
  unfold OpenB
  by_cases hq : num 256 f 4 = crcN (fun j => f (4 + j)) (n - 4) <;> simp [hq, h]

set_option maxRecDepth 100000 in
set_option maxHeartbeats 2000000 in
theorem open_few (A : Option Addr) (n c : Nat) (f : Nat → Nat) (w : World) (h4 : n < 4) :
    Calls Try.prog 84 #[.slice A n c] w fun e w' => OpenPost w w' e n f := by
  have HN := Lib.hid (openB_few (f := f) h4)
  have hd : decide ((n : Int) < 4) = true := by rw [decide_eq_true_eq]; omega
  go_enter Try.func84, Try.ntmps84
  go_wp2
  go_quiet (fail)
  go_wp2
  go_ret2
  exact .inr ⟨HN.out, rfl, Below.drewN_ (Below.refl _ _) _⟩

set_option maxRecDepth 100000 in
set_option maxHeartbeats 2000000 in
theorem open_any (A : Option Addr) (n c : Nat) (f : Nat → Nat) (w : World) (hr : Rd .u8 w A n f) (hf : ∀ j, j < n → f j < 256) (hn : n ≤ 1000000) (hc : n ≤ c) :
    Calls Try.prog 84 #[.slice A n c] w fun e w' => OpenPost w w' e n f := by
  by_cases h4 : n < 4
  · exact open_few A n c f w h4
  · have HR := Lib.hid hr
    have HF := Lib.hid hf
    clear hr hf
    obtain ⟨ad, rfl, _⟩ := HR.out.some_ (by omega)
    obtain ⟨B, hsl, hB⟩ := rest_at ad n c 4 f w HR.out hc (by omega)
    have HB := Lib.hid hB
    have hF4 : ∀ j, j < n - 4 → f (4 + j) < 256 := fun j hj => HF.out _ (by omega)
    have HF4 := Lib.hid hF4
    have HBY := Lib.hid (show Byt w (.slice (some B) (n - 4) (c - 4)) (n - 4) (fun j => f (4 + j)) from ⟨_, _, rfl, by omega, hB, hF4⟩)
    clear hB hF4
    have hsl4 := fun wq => hsl wq 4 rfl
    have HSL := Lib.hid hsl4
    clear hsl
    have hd : decide ((n : Int) < 4) = false := by rw [decide_eq_false_iff_not]; omega
    have hd2 : ¬ (n : Int) < 4 := by omega
    have HO := Lib.hid (openB_is (f := f) (n := n) (by omega))
    have hah := fun w0 (h : Rd .u8 w0 (some ad) n f) => ahead_any (some ad) n c f w0 h HF.out (by omega)
    have hsm := fun w0 (h : Rd .u8 w0 (some B) (n - 4) (fun j => f (4 + j))) => sum_any (some B) (n - 4) (c - 4) _ w0 h HF4.out (by omega)
    generalize num 256 f 4 = X at *
    generalize crcN (fun j => f (4 + j)) (n - 4) = S at *
    have HAH := Lib.hid hah
    have HSM := Lib.hid hsm
    clear hah hsm
    by_cases hq : X = S
    · have hne : ((X : Int) != (S : Int)) = false := by rw [bne_eq_false_iff_eq]; omega
      rw [decide_eq_true hq] at HO
      have HQ := Lib.hid hq
      clear hq
      have HCL := Lib.hid (fun w0 (h : Rd .u8 w0 (some B) (n - 4) (fun j => f (4 + j))) => clone_any B (n - 4) (c - 4) _ w0 h HF4.out (by omega))
      go_enter Try.func84, Try.ntmps84
      go_wp2
      go_region_with (first
        | (go_at_call 90; refine (HAH.out _ (by first | exact HR.out.drew | exact HR.out.drew.below hb1)).mono ?_; rintro e w' ⟨rfl, rfl⟩)
        | (go_at_call 88; refine (HSM.out _ (by exact HB.out.drew)).mono ?_; rintro e w2 ⟨rfl, hb1⟩))
      have HB1 := Lib.hid (show Below w.heap.size w w2 from ⟨hb1.os, hb1.tape, hb1.output, hb1.size, hb1.block⟩)
      clear hb1
      have hs := HSL.out w2
      go_wp2_with (go_at_call 50; refine (HCL.out _ (HB.out.below HB1.out)).mono ?_; rintro e w3 ⟨v, rfl, hv, hb3, ht3⟩; have HT := Lib.hid ht3; clear ht3)
      have HB3 := Lib.hid (HB1.out.trans (hb3.mono HB1.out.size))
      have HV := Lib.hid hv
      clear hs hb3 hv
      go_wp2
      go_ret2
      exact .inl ⟨HO.out, v, rfl, HV.out, HB3.out, HT.out⟩
    · have hne : ((X : Int) != (S : Int)) = true := by rw [bne_iff_ne]; omega
      rw [decide_eq_false hq] at HO
      clear hq
      go_enter Try.func84, Try.ntmps84
      go_wp2
      go_region_with (first
        | (go_at_call 90; refine (HAH.out _ (by first | exact HR.out.drew | exact HR.out.drew.below hb1)).mono ?_; rintro e w' ⟨rfl, rfl⟩)
        | (go_at_call 88; refine (HSM.out _ (by exact HB.out.drew)).mono ?_; rintro e w2 ⟨rfl, hb1⟩))
      have HB1 := Lib.hid (show Below w.heap.size w w2 from ⟨hb1.os, hb1.tape, hb1.output, hb1.size, hb1.block⟩)
      clear hb1
      go_wp2
      go_ret2
      exact .inr ⟨HO.out, rfl, HB1.out⟩

end Go.Proofs.Yteeomidlnijfbaa

/- The contracts in the words of bytes; the walk of CrcSums. -/
namespace Go.Proofs.Yteeomidlnijfbaa
open Go.RowKit

theorem bbt {w0 w1 w2 : World} (h : Below w0.heap.size w0 w1) (h2 : Below w1.heap.size w1 w2) : Below w0.heap.size w0 w2 := h.trans (h2.mono h.size)
theorem Byt.lt {w : World} {v : Value} {n : Nat} {f : Nat → Nat} (h : Byt w v n f) : ∀ j, j < n → f j < 256 := by
  obtain ⟨A, c, h1, h2, h3, h4⟩ := h
  exact h4
section
variable {w : World} {v v1 v2 : Value} {n : Nat} {f g : Nat → Nat}
theorem open_b (h : Byt w v n f) (hn : n ≤ 1000000) : Calls Try.prog 84 #[v] w fun e w' => OpenPost w w' e n f := by
  obtain ⟨A, c, rfl, h2, h3, h4⟩ := h
  exact open_any A n c f w h3 h4 hn h2
theorem OpenPost.yes {w' : World} {e : Ending} (h : OpenPost w w' e n f) (ho : OpenB f n = true) : OpenYes w w' e n f := by
  rcases h with ⟨_, h⟩ | ⟨h, _⟩
  · exact h
  · rw [ho] at h; cases h
theorem OpenPost.no {w' : World} {e : Ending} (h : OpenPost w w' e n f) (ho : OpenB f n = false) : OpenNo w w' e := by
  rcases h with ⟨h, _⟩ | ⟨_, h⟩
  · rw [ho] at h; cases h
  · exact h
end
theorem num_seal {s : Nat} {f : Nat → Nat} (hs : s < 4294967296) : num 256 (sealF s f) 4 = s :=
  (four_num (fun j hj => by unfold sealF; rw [if_pos hj]; exact Nat.mod_lt _ (by decide)) hs).2 fun j hj => by unfold sealF; rw [if_pos hj]
theorem seal_behind (s : Nat) (f : Nat → Nat) (j : Nat) : sealF s f (4 + j) = f j := by
  unfold sealF
  rw [if_neg (by omega), Nat.add_sub_cancel_left]
theorem openB_seal {f : Nat → Nat} {n : Nat} (hf : ∀ j, j < n → f j < 256) : OpenB (sealF (crcN f n) f) (4 + n) = true := by
  rw [openB_is (by omega), decide_eq_true_eq, num_seal (crcN_lt hf), Nat.add_sub_cancel_left]
  exact crcN_congr fun j _ => (seal_behind _ _ _).symm

end Go.Proofs.Yteeomidlnijfbaa

/- A cell's words; whether it may be; how many cells a record has: both sides. -/
namespace Go.Proofs.Yteeomidlnijfbaa
open Go.RowKit

/-- May a cell be? -/
def mayP (p q : Int) (n : Nat) : Prop := 1 ≤ q ∧ q ≤ 8 ∧ 0 ≤ p ∧ p < q ∧ 1 ≤ n ∧ n ≤ 49 ∧ (p = q - 1 ∨ n = 49)
instance (p q : Int) (n : Nat) : Decidable (mayP p q n) := by unfold mayP; infer_instance
/-- A cell as a value. -/
abbrev cellV (g s : Nat) (p q : Int) (A : Option Addr) (n c : Nat) : Value := .agg #[.int .u32 (g : Nat), .int .u32 (s : Nat), .int .i64 p, .int .i64 q, .slice A n c]
set_option maxRecDepth 100000 in
set_option maxHeartbeats 2000000 in
theorem may_any (g s : Nat) (p q : Int) (A : Option Addr) (n c : Nat) (w : World) (hn : n ≤ 9223372036854775807) :
    Calls Try.prog 77 #[cellV g s p q A n c] w fun e w' => e = .returned (.bool (decide (mayP p q n))) ∧ Below w.heap.size w w' := by
  obtain ⟨B, hB⟩ : ∃ B, decide (mayP p q n) = B := ⟨_, rfl⟩
  rw [hB]
  have HBD := Lib.hid hB
  clear hB
  have HW := Lib.hid (below_new w (.cells #[.int .u32 (g : Nat), .int .u32 (s : Nat), .int .i64 p, .int .i64 q, .slice A n c] 97))
  have fin : ∀ b : Bool, (b = true ↔ mayP p q n) → b = B := fun b hb => by
    rw [← HBD.out]
    cases b
    · exact (decide_eq_false (fun h => by have := hb.2 h; cases this)).symm
    · exact (decide_eq_true (hb.1 rfl)).symm
  have FIN := Lib.hid fin
  clear fin HBD
  by_cases h1 : q < 1
  · go_enter Try.func77, Try.ntmps77
    go_wp2
    go_ret
    exact ⟨congrArg (fun b => Ending.returned (.bool b)) (FIN.out _ (by unfold mayP; simp; omega)), HW.out⟩
  by_cases h2 : 8 < q
  · go_enter Try.func77, Try.ntmps77
    go_wp2
    go_ret
    exact ⟨congrArg (fun b => Ending.returned (.bool b)) (FIN.out _ (by unfold mayP; simp; omega)), HW.out⟩
  by_cases h3 : p < 0
  · go_enter Try.func77, Try.ntmps77
    go_wp2
    go_ret
    exact ⟨congrArg (fun b => Ending.returned (.bool b)) (FIN.out _ (by unfold mayP; simp; omega)), HW.out⟩
  by_cases h4 : q ≤ p
  · go_enter Try.func77, Try.ntmps77
    go_wp2
    go_ret
    exact ⟨congrArg (fun b => Ending.returned (.bool b)) (FIN.out _ (by unfold mayP; simp; omega)), HW.out⟩
  by_cases h5 : p < q - 1
  · go_enter Try.func77, Try.ntmps77
    go_wp2
    go_ret
    exact ⟨congrArg (fun b => Ending.returned (.bool b)) (FIN.out _ (by unfold mayP; simp; omega)), HW.out⟩
  by_cases h6 : n < 1
  · go_enter Try.func77, Try.ntmps77
    go_wp2
    go_ret
    exact ⟨congrArg (fun b => Ending.returned (.bool b)) (FIN.out _ (by unfold mayP; simp; omega)), HW.out⟩
  · go_enter Try.func77, Try.ntmps77
    go_wp2
    go_ret
    exact ⟨congrArg (fun b => Ending.returned (.bool b)) (FIN.out _ (by unfold mayP; simp; omega)), HW.out⟩
end Go.Proofs.Yteeomidlnijfbaa
