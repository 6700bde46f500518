/- Contracts: both sides' Seal. -/
import Derived.Test.YtmcbmbcfgefocaaPCe
import Derived.Deep.RegionHeld3
namespace Go.Proofs.Ytmcbmbcfgefocaa
open Go.RowKit

/-- The sum's four bytes, and f behind them. -/
def sealF (s : Nat) (f : Nat → Nat) : Nat → Nat := fun j => if j < 4 then s / 256 ^ j % 256 else f (j - 4)
theorem sealF_lt {s n : Nat} {f : Nat → Nat} (hf : ∀ j, j < n → f j < 256) : ∀ j, j < 4 + n → sealF s f j < 256 := fun j hj => by
  unfold sealF
  split
  · omega
  · exact hf _ (by omega)
def SealPost (w w' : World) (e : Ending) (n : Nat) (f : Nat → Nat) : Prop := ∃ v, e = .returned v ∧ Byt w' v (4 + n) (sealF (crcN f n) f) ∧ Below w.heap.size w w'
def SlInv (w wr : World) (v : Value) (k S : Nat) (f : Nat → Nat) : Prop := Own .u8 5 wr w.heap.size v k (sealF S f) ∧ Below w.heap.size w wr
theorem SlInv.step {w wr w2 : World} {v : Value} {k S x : Nat} {f : Nat → Nat} (hb : Below w.heap.size w wr) (h : Own .u8 5 w2 w.heap.size v (k + 1) (appF (sealF S f) k (fun _ => x))) (h2 : Below w.heap.size (wr.alloc (.cells #[.int .u8 (x : Nat)] 5)) w2) (hx : x = sealF S f k) :
    SlInv w w2 v (k + 1) S f :=
  ⟨h.congr fun j hj => by
    unfold appF
    split
    · rfl
    · obtain rfl : j = k := by omega
      exact hx, (hb.trans ((below_new wr _).mono hb.size)).trans h2⟩

set_option maxRecDepth 20000 in
set_option maxHeartbeats 2000000 in
theorem seal_any (A : Option Addr) (n c : Nat) (f : Nat → Nat) (w : World) (hr : Rd .u8 w A n f) (hf : ∀ j, j < n → f j < 256) (hn : n ≤ 1000000) (hA : A = none → n = 0 ∧ c = 0) :
    Calls Try.prog 75 #[.slice A n c] w fun e w' => SealPost w w' e n f := by
  have HR := Lib.hid hr
  have HF := Lib.hid hf
  have HA := Lib.hid hA
  clear hr hf hA
  go_enter Try.func75, Try.ntmps75
  go_wp2_with (at_make; refine wpList_make_cap rfl _ _ 35 rfl .u8 5 Try.underlying35 1 u8_info (by omega) _ _ _ (4 + n) rfl rfl (by omega) (by omega) (sealF (crcN f n) f) ?_; intro w1 hown1 hb1 hs1)
  have HO1 := Lib.hid hown1
  have HB1 := Lib.hid hb1
  clear hown1 hb1
  go_wp2_with (go_at_call 82; refine (sum_any A n c f _ (HR.out.below HB1.out) HF.out (by omega)).mono ?_; rintro e w2 ⟨rfl, hb2⟩)
  have hs2 := hb2.size
  have I0 : Hid (SlInv w w2 (.slice (some ⟨w.heap.size, 0, none⟩) 0 (4 + n)) 0 (crcN f n) f) :=
    ⟨HO1.out.below hb2, HB1.out.trans (hb2.mono hs1)⟩
  clear hb2 hs1 hs2
  have hSl := crcN_lt (f := f) (n := n) HF.out
  generalize hS : crcN f n = S at *
  have HS := Lib.hid hS
  clear hS
  go_loopw [3, 4, 11] (fun v3 v4 v11 wr => ∃ k, k ≤ 4 ∧ v4 = .int .u32 (S / 256 ^ k : Nat) ∧ v11 = .int .i64 (k : Nat) ∧ SlInv w wr v3 k S f) (fun _ _ v11 _ => 4 - (intOf v11).toNat)
  case atStart => exact ⟨0, by omega, by rw [Nat.pow_zero, Nat.div_one], rfl, I0.out⟩
  case round =>
    obtain ⟨k, hk, rfl, rfl, hinv⟩ := hrel
    clear I0
    have HI := Lib.hid hinv
    clear hinv
    have hz : S / 256 ^ k < 4294967296 := Nat.lt_of_le_of_lt (Nat.div_le_self _ _) hSl
    by_cases hk4 : k < 4
    · have HZ : Hid (S / 256 ^ k % 256 = sealF S f k) := by show _ = _; unfold sealF; rw [if_pos hk4]
      have HZ2 : Hid (S / 256 ^ (k + 1) = S / 256 ^ k / 256) := by show _ = _; rw [Nat.pow_succ, Nat.div_div_eq_div_mul]
      generalize S / 256 ^ k = z at *
      have hown1 := HI.out.1.alloc (.cells #[.int .u8 ((z : Int) % 256)] 5)
      have hrd1 : Rd .u8 (wr.alloc (.cells #[.int .u8 ((z : Int) % 256)] 5)) (some ⟨wr.heap.size, 0, none⟩) 1 (fun _ => z % 256) := (row_one wr (z % 256)).rd0 (Nat.le_refl _)
      have hws := HI.out.2.size
      have HST : Hid (∀ v2 w5, Own .u8 5 w5 w.heap.size v2 (k + 1) (appF (sealF S f) k (fun _ => z % 256)) → Below w.heap.size (wr.alloc (.cells #[.int .u8 ((z : Int) % 256)] 5)) w5 → SlInv w w5 v2 (k + 1) S f) := fun v2 w5 q1 q2 =>
        SlInv.step (wr := wr) HI.out.2 q1 q2 HZ.out
      clear HI
      go_wp2_with (at_builtin; refine wpList_app rfl (.tmp 13) (.tmp 16) 35 rfl .u8 5 Try.underlying35 1 u8_info (by omega) w.heap.size _ k (sealF S f) rfl hown1 (some ⟨wr.heap.size, 0, none⟩) 1 1 (fun _ => z % 256) rfl hrd1 (fun h => by cases h) (by omega) (by simp; omega) ?_; intro v2 w5 hown2 hb2 hsz2)
      have HS2 := Lib.hid (HST.out _ _ hown2 hb2)
      clear hown2 hb2 hsz2 hown1 hrd1
      go_wp2
      go_roundw
      case rel => exact ⟨k + 1, by omega, by rw [HZ2.out]; go_num, by go_num, HS2.out⟩
      case measure => simp [intOf]; omega
    · obtain rfl : k = 4 := by omega
      clear hz
      have hrdA := HR.out.below HI.out.2
      have hown4 := HI.out.1
      have hws := HI.out.2.size
      go_wp2_with (at_builtin; refine wpList_app rfl (.tmp 21) (.tmp 22) 35 rfl .u8 5 Try.underlying35 1 u8_info (by omega) w.heap.size _ 4 (sealF S f) rfl hown4 A n c f rfl hrdA HA.out (by omega) hws ?_; intro v2 w5 hown2 hb2 hsz2)
      have HO2 := Lib.hid hown2
      have HB2 := Lib.hid (HI.out.2.trans hb2)
      clear hown4 hrdA hown2 hb2 hsz2
      go_wp2
      go_ret
      refine ⟨v2, rfl, ?_, HB2.out⟩
      rw [HS.out]
      exact own_byt (HO2.out.congr fun j hj => by unfold appF sealF; by_cases h4 : j < 4 <;> simp [h4]) (sealF_lt HF.out)

end Go.Proofs.Ytmcbmbcfgefocaa

/- Contracts: the document's Seal and Open. -/
namespace Go.Proofs.Ytmcbmbcfgefocaa
open Go.RowKit

theorem el8 : Try.prog.underlying 35 = some (.slice (Try.prog.elem 35)) := by kernel_rfl
theorem sz8 (w : World) : (sizeOf (Try.prog.elem 35)).run Try.prog w = .ok 1 w := by kernel_rfl
theorem rest_at (ad : Addr) (n c l : Nat) (f : Nat → Nat) (w : World) (ha : Rd .u8 w (some ad) n f) (hc : n ≤ c) (hl : l ≤ n) :
    ∃ B : Addr, (∀ (wq : World) (L : Int), L = l → (Instr.slice 35 (.slice (some ad) n c) (some (.int .i64 L)) none none).run Try.prog wq = .ok (.slice (some B) (n - l) (c - l)) wq) ∧ Rd .u8 w (some B) (n - l) (fun j => f (l + j)) := by
  refine ⟨if c = l then ad else ad.add l, fun wq L hL => ?_, ?_⟩
  · subst hL
    rw [run_slice_l wq 35 (some ad) n c el8 .i64 l (by omega) (by omega), sz8]
    simp only [Result.andThen, sliced, Int.toNat_natCast, Nat.mul_one, Option.map_some]
    split <;> rfl
  · by_cases h : c = l
    · obtain rfl : l = n := by omega
      rw [Nat.sub_self]
      exact Rd.zero
    · rw [if_neg h]
      exact ha.drop hl

def OpenB (f : Nat → Nat) (n : Nat) : Bool := decide (4 ≤ n ∧ num 256 f 4 = crcN (fun j => f (4 + j)) (n - 4))
def OpenYes (w w' : World) (e : Ending) (n : Nat) (f : Nat → Nat) : Prop := ∃ v, e = .returned (.tuple #[v, .bool true]) ∧ Byt w' v (n - 4) (fun j => f (4 + j)) ∧ Below w.heap.size w w' ∧ Typ8 w' v
def OpenNo (w w' : World) (e : Ending) : Prop := e = .returned (.tuple #[.slice none 0 0, .bool false]) ∧ Below w.heap.size w w'
def OpenPost (w w' : World) (e : Ending) (n : Nat) (f : Nat → Nat) : Prop := (OpenB f n = true ∧ OpenYes w w' e n f) ∨ (OpenB f n = false ∧ OpenNo w w' e)
theorem four_num {f : Nat → Nat} {S : Nat} (hf : ∀ j, j < 4 → f j < 256) (hS : S < 4294967296) : num 256 f 4 = S ↔ ∀ j, j < 4 → f j = S / 256 ^ j % 256 := by
  have e : num 256 f 4 = f 0 + f 1 * 256 + f 2 * 65536 + f 3 * 16777216 := by simp [num]
  have h0 := hf 0 (by omega)
  have h1 := hf 1 (by omega)
  have h2 := hf 2 (by omega)
  have h3 := hf 3 (by omega)
  rw [e]
  constructor
  · intro h j hj
    have : j = 0 ∨ j = 1 ∨ j = 2 ∨ j = 3 := by omega
    rcases this with rfl | rfl | rfl | rfl
    · simp; omega
    · simp; omega
    · simp; omega
    · simp; omega
  · intro h
    have q0 := h 0 (by omega)
    have q1 := h 1 (by omega)
    have q2 := h 2 (by omega)
    have q3 := h 3 (by omega)
    simp at q0 q1 q2 q3
    omega
theorem openB_few {f : Nat → Nat} {n : Nat} (h : n < 4) : OpenB f n = false := by
  unfold OpenB
  rw [decide_eq_false_iff_not]
  omega

end Go.Proofs.Ytmcbmbcfgefocaa

/- Contract: Open. -/
namespace Go.Proofs.Ytmcbmbcfgefocaa
open Go.RowKit

theorem openB_is {f : Nat → Nat} {n : Nat} (h : 4 ≤ n) : OpenB f n = decide (num 256 f 4 = crcN (fun j => f (4 + j)) (n - 4)) := by
  unfold OpenB
  by_cases hq : num 256 f 4 = crcN (fun j => f (4 + j)) (n - 4) <;> simp [hq, h]

set_option maxRecDepth 100000 in
set_option maxHeartbeats 2000000 in
theorem open_few (A : Option Addr) (n c : Nat) (f : Nat → Nat) (w : World) (h4 : n < 4) :
    Calls Try.prog 78 #[.slice A n c] w fun e w' => OpenPost w w' e n f := by
  have HN := Lib.hid (openB_few (f := f) h4)
  have hd : decide ((n : Int) < 4) = true := by rw [decide_eq_true_eq]; omega
  go_enter Try.func78, Try.ntmps78
  go_wp2
  go_quiet (fail)
  go_wp2
  go_ret2
  exact .inr ⟨HN.out, rfl, Below.drewN_ (Below.refl _ _) _⟩

set_option maxRecDepth 100000 in
set_option maxHeartbeats 2000000 in
theorem open_any (A : Option Addr) (n c : Nat) (f : Nat → Nat) (w : World) (hr : Rd .u8 w A n f) (hf : ∀ j, j < n → f j < 256) (hn : n ≤ 1000000) (hc : n ≤ c) :
    Calls Try.prog 78 #[.slice A n c] w fun e w' => OpenPost w w' e n f := by
  by_cases h4 : n < 4
  · exact open_few A n c f w h4
  · have HR := Lib.hid hr
    have HF := Lib.hid hf
    clear hr hf
    obtain ⟨ad, rfl, _⟩ := HR.out.some_ (by omega)
    obtain ⟨B, hsl, hB⟩ := rest_at ad n c 4 f w HR.out hc (by omega)
    have HB := Lib.hid hB
    have hF4 : ∀ j, j < n - 4 → f (4 + j) < 256 := fun j hj => HF.out _ (by omega)
    have HF4 := Lib.hid hF4
    have HBY := Lib.hid (show Byt w (.slice (some B) (n - 4) (c - 4)) (n - 4) (fun j => f (4 + j)) from ⟨_, _, rfl, by omega, hB, hF4⟩)
    clear hB hF4
    have hsl4 := fun wq => hsl wq 4 rfl
    have HSL := Lib.hid hsl4
    clear hsl
    have hd : decide ((n : Int) < 4) = false := by rw [decide_eq_false_iff_not]; omega
    have hd2 : ¬ (n : Int) < 4 := by omega
    have HO := Lib.hid (openB_is (f := f) (n := n) (by omega))
    have hah := fun w0 (h : Rd .u8 w0 (some ad) n f) => ahead_any (some ad) n c f w0 h HF.out (by omega)
    have hsm := fun w0 (h : Rd .u8 w0 (some B) (n - 4) (fun j => f (4 + j))) => sum_any (some B) (n - 4) (c - 4) _ w0 h HF4.out (by omega)
    generalize num 256 f 4 = X at *
    generalize crcN (fun j => f (4 + j)) (n - 4) = S at *
    have HAH := Lib.hid hah
    have HSM := Lib.hid hsm
    clear hah hsm
    by_cases hq : X = S
    · have hne : ((X : Int) != (S : Int)) = false := by rw [bne_eq_false_iff_eq]; omega
      rw [decide_eq_true hq] at HO
      have HQ := Lib.hid hq
      clear hq
      have HCL := Lib.hid (fun w0 (h : Rd .u8 w0 (some B) (n - 4) (fun j => f (4 + j))) => clone_any B (n - 4) (c - 4) _ w0 h HF4.out (by omega))
      go_enter Try.func78, Try.ntmps78
      go_wp2
      go_region_with (first
        | (go_at_call 84; refine (HAH.out _ (by first | exact HR.out.drew | exact HR.out.drew.below hb1)).mono ?_; rintro e w' ⟨rfl, rfl⟩)
        | (go_at_call 82; refine (HSM.out _ (by exact HB.out.drew)).mono ?_; rintro e w2 ⟨rfl, hb1⟩))
      have HB1 := Lib.hid (show Below w.heap.size w w2 from ⟨hb1.os, hb1.tape, hb1.output, hb1.size, hb1.block⟩)
      clear hb1
      have hs := HSL.out w2
      go_wp2_with (go_at_call 39; refine (HCL.out _ (HB.out.below HB1.out)).mono ?_; rintro e w3 ⟨v, rfl, hv, hb3, ht3⟩; have HT := Lib.hid ht3; clear ht3)
      have HB3 := Lib.hid (HB1.out.trans (hb3.mono HB1.out.size))
      have HV := Lib.hid hv
      clear hs hb3 hv
      go_wp2
      go_ret2
      exact .inl ⟨HO.out, v, rfl, HV.out, HB3.out, HT.out⟩
    · have hne : ((X : Int) != (S : Int)) = true := by rw [bne_iff_ne]; omega
      rw [decide_eq_false hq] at HO
      clear hq
      go_enter Try.func78, Try.ntmps78
      go_wp2
      go_region_with (first
        | (go_at_call 84; refine (HAH.out _ (by first | exact HR.out.drew | exact HR.out.drew.below hb1)).mono ?_; rintro e w' ⟨rfl, rfl⟩)
        | (go_at_call 82; refine (HSM.out _ (by exact HB.out.drew)).mono ?_; rintro e w2 ⟨rfl, hb1⟩))
      have HB1 := Lib.hid (show Below w.heap.size w w2 from ⟨hb1.os, hb1.tape, hb1.output, hb1.size, hb1.block⟩)
      clear hb1
      go_wp2
      go_ret2
      exact .inr ⟨HO.out, rfl, HB1.out⟩

end Go.Proofs.Ytmcbmbcfgefocaa

/- The contracts in the words of bytes; the walk of CrcSums. -/
namespace Go.Proofs.Ytmcbmbcfgefocaa
open Go.RowKit

theorem bbt {w0 w1 w2 : World} (h : Below w0.heap.size w0 w1) (h2 : Below w1.heap.size w1 w2) : Below w0.heap.size w0 w2 := h.trans (h2.mono h.size)
theorem Byt.lt {w : World} {v : Value} {n : Nat} {f : Nat → Nat} (h : Byt w v n f) : ∀ j, j < n → f j < 256 := by
  obtain ⟨A, c, h1, h2, h3, h4⟩ := h
  exact h4
section
variable {w : World} {v v1 v2 : Value} {n : Nat} {f g : Nat → Nat}
theorem open_b (h : Byt w v n f) (hn : n ≤ 1000000) : Calls Try.prog 78 #[v] w fun e w' => OpenPost w w' e n f := by
  obtain ⟨A, c, rfl, h2, h3, h4⟩ := h
  exact open_any A n c f w h3 h4 hn h2
theorem OpenPost.yes {w' : World} {e : Ending} (h : OpenPost w w' e n f) (ho : OpenB f n = true) : OpenYes w w' e n f := by
  rcases h with ⟨_, h⟩ | ⟨h, _⟩
  · exact h
  · rw [ho] at h; cases h
theorem OpenPost.no {w' : World} {e : Ending} (h : OpenPost w w' e n f) (ho : OpenB f n = false) : OpenNo w w' e := by
  rcases h with ⟨h, _⟩ | ⟨_, h⟩
  · rw [ho] at h; cases h
  · exact h
end
theorem num_seal {s : Nat} {f : Nat → Nat} (hs : s < 4294967296) : num 256 (sealF s f) 4 = s :=
  (four_num (fun j hj => by unfold sealF; rw [if_pos hj]; exact Nat.mod_lt _ (by decide)) hs).2 fun j hj => by unfold sealF; rw [if_pos hj]
theorem seal_behind (s : Nat) (f : Nat → Nat) (j : Nat) : sealF s f (4 + j) = f j := by
  unfold sealF
  rw [if_neg (by omega), Nat.add_sub_cancel_left]
theorem openB_seal {f : Nat → Nat} {n : Nat} (hf : ∀ j, j < n → f j < 256) : OpenB (sealF (crcN f n) f) (4 + n) = true := by
  rw [openB_is (by omega), decide_eq_true_eq, num_seal (crcN_lt hf), Nat.add_sub_cancel_left]
  exact crcN_congr fun j _ => (seal_behind _ _ _).symm

end Go.Proofs.Ytmcbmbcfgefocaa

/- A cell's words; whether it may be; how many cells a record has: both sides. -/
namespace Go.Proofs.Ytmcbmbcfgefocaa
open Go.RowKit

/-- May a cell be? -/
def mayP (p q : Int) (n : Nat) : Prop := 1 ≤ q ∧ q ≤ 8 ∧ 0 ≤ p ∧ p < q ∧ 1 ≤ n ∧ n ≤ 49 ∧ (p = q - 1 ∨ n = 49)
instance (p q : Int) (n : Nat) : Decidable (mayP p q n) := by unfold mayP; infer_instance
/-- A cell as a value. -/
abbrev cellV (g s : Nat) (p q : Int) (A : Option Addr) (n c : Nat) : Value := .agg #[.int .u32 (g : Nat), .int .u32 (s : Nat), .int .i64 p, .int .i64 q, .slice A n c]
def needF (n : Nat) : Nat := if n < 1 ∨ 392 < n then 0 else (n + 48) / 49

set_option maxRecDepth 100000 in
set_option maxHeartbeats 2000000 in
theorem may_any (g s : Nat) (p q : Int) (A : Option Addr) (n c : Nat) (w : World) (hn : n ≤ 9223372036854775807) :
    Calls Try.prog 73 #[cellV g s p q A n c] w fun e w' => e = .returned (.bool (decide (mayP p q n))) ∧ Below w.heap.size w w' := by
  obtain ⟨B, hB⟩ : ∃ B, decide (mayP p q n) = B := ⟨_, rfl⟩
  rw [hB]
  have HBD := Lib.hid hB
  clear hB
  have HW := Lib.hid (below_new w (.cells #[.int .u32 (g : Nat), .int .u32 (s : Nat), .int .i64 p, .int .i64 q, .slice A n c] 106))
  have fin : ∀ b : Bool, (b = true ↔ mayP p q n) → b = B := fun b hb => by
    rw [← HBD.out]
    cases b
    · exact (decide_eq_false (fun h => by have := hb.2 h; cases this)).symm
    · exact (decide_eq_true (hb.1 rfl)).symm
  have FIN := Lib.hid fin
  clear fin HBD
  by_cases h1 : q < 1
  · go_enter Try.func73, Try.ntmps73
    go_wp2
    go_ret
    exact ⟨congrArg (fun b => Ending.returned (.bool b)) (FIN.out _ (by unfold mayP; simp; omega)), HW.out⟩
  by_cases h2 : 8 < q
  · go_enter Try.func73, Try.ntmps73
    go_wp2
    go_ret
    exact ⟨congrArg (fun b => Ending.returned (.bool b)) (FIN.out _ (by unfold mayP; simp; omega)), HW.out⟩
  by_cases h3 : p < 0
  · go_enter Try.func73, Try.ntmps73
    go_wp2
    go_ret
    exact ⟨congrArg (fun b => Ending.returned (.bool b)) (FIN.out _ (by unfold mayP; simp; omega)), HW.out⟩
  by_cases h4 : q ≤ p
  · go_enter Try.func73, Try.ntmps73
    go_wp2
    go_ret
    exact ⟨congrArg (fun b => Ending.returned (.bool b)) (FIN.out _ (by unfold mayP; simp; omega)), HW.out⟩
  by_cases h5 : p < q - 1
  · go_enter Try.func73, Try.ntmps73
    go_wp2
    go_ret
    exact ⟨congrArg (fun b => Ending.returned (.bool b)) (FIN.out _ (by unfold mayP; simp; omega)), HW.out⟩
  by_cases h6 : n < 1
  · go_enter Try.func73, Try.ntmps73
    go_wp2
    go_ret
    exact ⟨congrArg (fun b => Ending.returned (.bool b)) (FIN.out _ (by unfold mayP; simp; omega)), HW.out⟩
  · go_enter Try.func73, Try.ntmps73
    go_wp2
    go_ret
    exact ⟨congrArg (fun b => Ending.returned (.bool b)) (FIN.out _ (by unfold mayP; simp; omega)), HW.out⟩
end Go.Proofs.Ytmcbmbcfgefocaa

/- Contracts: put and get: a number's four bytes. -/
namespace Go.Proofs.Ytmcbmbcfgefocaa
open Go.RowKit
set_option linter.unusedSimpArgs false
set_option linter.unusedVariables false

/-- What a row holds behind the put of x's four bytes at o. -/
def putF (F : Nat → Nat) (o x k : Nat) : Nat → Nat := fun j => if o ≤ j ∧ j < o + k then x / 256 ^ (j - o) % 256 else F j
theorem putF_step (F : Nat → Nat) (o x k : Nat) : upd (putF F o x k) (o + k) (x / 256 ^ k % 256) = putF F o x (k + 1) := by
  funext j
  unfold upd putF
  by_cases h : j = o + k
  · subst h
    rw [if_pos rfl, if_pos (by omega), Nat.add_sub_cancel_left]
  · rw [if_neg h]
    by_cases h2 : o ≤ j ∧ j < o + k
    · rw [if_pos h2, if_pos (by omega)]
    · rw [if_neg h2, if_neg (by omega)]
set_option maxRecDepth 100000 in
set_option maxHeartbeats 2000000 in
theorem put_any (G o c sz x : Nat) (F : Nat → Nat) (t : TypeId) (w : World) (hr : Row .u8 t w G sz F) (hs : o + 4 ≤ sz) (hx : x < 4294967296) :
    Calls Try.prog 74 #[.slice (some ⟨G, o, none⟩) 4 c, .int .u32 (x : Nat)] w fun e w' => (∃ v, e = .returned v) ∧ Row .u8 t w' G sz (putF F o x 4) ∧ Wr G w w' ∧ w'.heap.size = w.heap.size := by
  go_enter Try.func74, Try.ntmps74
  go_wp2
  go_loopw [7] (fun v wr => ∃ k : Nat, k ≤ 4 ∧ v = .int .i64 (k : Nat) ∧ Row .u8 t wr G sz (putF F o x k) ∧ Wr G w wr ∧ wr.heap.size = w.heap.size) (fun v _ => 4 - (intOf v).toNat)
  case atStart => exact ⟨0, by omega, rfl, hr.congr (fun j _ => by unfold putF; rw [if_neg (by omega)]), Wr.refl, rfl⟩
  case round =>
    obtain ⟨k, hk, rfl, hrow, hwr, hsz⟩ := hrel
    have HR := Lib.hid hrow
    have HW := Lib.hid hwr
    have HZ := Lib.hid hsz
    by_cases hk4 : k < 4
    · have hc := hrow.cell (j := o + k) (by omega)
      have hfr := hrow.frozen (o + k)
      have h01 : o + k < sz := by omega
      have e4 : k = 0 ∨ k = 1 ∨ k = 2 ∨ k = 3 := by omega
      have hst := hrow.set_ (o + k) (x / 256 ^ k % 256)
      rw [putF_step] at hst
      have HST := Lib.hid hst
      have HWR := Lib.hid (hwr.setCell (o + k) (.int .u8 ((x / 256 ^ k % 256 : Nat) : Int)))
      clear hrow hwr hsz hst
      rcases e4 with rfl | rfl | rfl | rfl
      all_goals
        try simp only [Nat.add_zero] at hc hfr
        simp only [Nat.pow_zero, Nat.div_one, Nat.reducePow, Nat.add_zero, Nat.zero_add, Nat.reduceAdd] at HST HWR
        go_wp2
        go_roundw
      case rel => exact ⟨1, by omega, rfl, HST.out, HWR.out, by simpa using HZ.out⟩
      case measure => simp [intOf]
      case rel => exact ⟨2, by omega, rfl, HST.out, HWR.out, by simpa using HZ.out⟩
      case measure => simp [intOf]
      case rel => exact ⟨3, by omega, rfl, HST.out, HWR.out, by simpa using HZ.out⟩
      case measure => simp [intOf]
      case rel =>
        have e : ((x / 16777216 % 256 : Nat) : Int) = (x : Int) / 16777216 := by omega
        rw [e] at HST HWR
        exact ⟨4, by omega, rfl, HST.out, HWR.out, by simpa using HZ.out⟩
      case measure => simp [intOf]
    · obtain rfl : k = 4 := by omega
      clear hrow hwr hsz
      go_wp2
      go_end0
      exact ⟨⟨_, rfl⟩, HR.out, HW.out, HZ.out⟩

set_option maxRecDepth 100000 in
set_option maxHeartbeats 2000000 in
theorem get_any (A : Option Addr) (c : Nat) (f : Nat → Nat) (w : World) (hr : Rd .u8 w A 4 f) (hf : ∀ j, j < 4 → f j < 256) :
    Calls Try.prog 79 #[.slice A 4 c] w fun e w' => e = .returned (.int .u32 (num 256 f 4 : Nat)) ∧ w = w' := by
  have HR := Lib.hid hr
  have HF := Lib.hid hf
  clear hr hf
  go_enter Try.func79, Try.ntmps79
  go_wp2
  go_loop [8, 3] (fun v s => ∃ k : Nat, k ≤ 4 ∧ v = .int .i64 (k : Nat) ∧ s = .int .u32 (num 256 f k : Nat)) (fun v _ => 4 - (intOf v).toNat)
  case atStart => exact ⟨0, by omega, rfl, rfl⟩
  case round =>
    obtain ⟨k, hk, rfl, rfl⟩ := hrel
    by_cases hlt : k < 4
    · have hfk := HF.out k (by omega)
      obtain ⟨ad, rfl, hcell⟩ := HR.out k (by omega)
      have h1 : num 256 f k < 4294967296 := num4_lt (fun j hj => HF.out j (by omega)) hk
      have h2 := or_step (f := f) (k := k) (fun j hj => HF.out j (by omega))
      have h3 : num 256 f (k + 1) < 4294967296 := num4_lt (fun j hj => HF.out j (by omega)) (by omega)
      have h4 : f k * 2 ^ (8 * k) < 4294967296 := by rw [num, p256] at h3; omega
      have h5 : bits BinOp.or IntKind.u32 (num 256 f k : Nat) (f k * 2 ^ (8 * k) : Nat) = (num 256 f (k + 1) : Nat) := by rw [u32_or_nat _ _ h1 h4, h2]
      have H5 := Lib.hid h5
      have H3 := Lib.hid h3
      clear h1 h2 h3 h4 h5
      generalize num 256 f k = z at *
      generalize hz' : num 256 f (k + 1) = z' at *
      have HZ := Lib.hid hz'
      clear hz'
      generalize f k = y at *
      have hk4 : k = 0 ∨ k = 1 ∨ k = 2 ∨ k = 3 := by omega
      have hfk' : (y : Int) < 256 := by omega
      rcases hk4 with rfl | rfl | rfl | rfl
      · have hc : w.cell? ad = some (.int .u8 (y : Nat)) := hcell
        clear hcell
        go_wp2
        go_round
        case rel => exact ⟨1, by omega, rfl, by rw [HZ.out]; exact congrArg (Value.int .u32) (by have := H5.out; simpa using this)⟩
        case measure => simp [intOf]
      · have hc : w.cell? ⟨ad.block, ad.off + 1, none⟩ = some (.int .u8 (y : Nat)) := hcell
        clear hcell
        go_wp2
        go_round
        case rel => exact ⟨2, by omega, rfl, by rw [HZ.out]; exact congrArg (Value.int .u32) (by have := H5.out; simpa using this)⟩
        case measure => simp [intOf]
      · have hc : w.cell? ⟨ad.block, ad.off + 2, none⟩ = some (.int .u8 (y : Nat)) := hcell
        clear hcell
        go_wp2
        go_round
        case rel => exact ⟨3, by omega, rfl, by rw [HZ.out]; exact congrArg (Value.int .u32) (by have := H5.out; simpa using this)⟩
        case measure => simp [intOf]
      · have hc : w.cell? ⟨ad.block, ad.off + 3, none⟩ = some (.int .u8 (y : Nat)) := hcell
        clear hcell
        go_wp2
        go_round
        case rel => exact ⟨4, by omega, rfl, by rw [HZ.out]; exact congrArg (Value.int .u32) (by have := H5.out; simpa using this)⟩
        case measure => simp [intOf]
    · obtain rfl : k = 4 := by omega
      go_wp2
      go_ret
      exact ⟨rfl, rfl⟩

end Go.Proofs.Ytmcbmbcfgefocaa
