/- Contracts: the document's Seal and Open. -/
import Derived.Test.YtjijfbllbajdoaaCf
import Derived.Deep.RegionHeld3
namespace Go.Proofs.Ytjijfbllbajdoaa
open Go.RowKit

theorem el8 : Try.prog.underlying 22 = some (.slice (Try.prog.elem 22)) := by kernel_rfl
theorem sz8 (w : World) : (sizeOf (Try.prog.elem 22)).run Try.prog w = .ok 1 w := by kernel_rfl
theorem rest_at (ad : Addr) (n c l : Nat) (f : Nat → Nat) (w : World) (ha : Rd .u8 w (some ad) n f) (hc : n ≤ c) (hl : l ≤ n) :
    ∃ B : Addr, (∀ (wq : World) (L : Int), L = l → (Instr.slice 22 (.slice (some ad) n c) (some (.int .i64 L)) none none).run Try.prog wq = .ok (.slice (some B) (n - l) (c - l)) wq) ∧ Rd .u8 w (some B) (n - l) (fun j => f (l + j)) := by
  refine ⟨if c = l then ad else ad.add l, fun wq L hL => ?_, ?_⟩
  · subst hL
    rw [run_slice_l wq 22 (some ad) n c el8 .i64 l (by omega) (by omega), sz8]
    simp only [Result.andThen, sliced, Int.toNat_natCast, Nat.mul_one, Option.map_some]
    split <;> rfl
  · by_cases h : c = l
    · obtain rfl : l = n := by omega
      rw [Nat.sub_self]
      exact Rd.zero
    · rw [if_neg h]
      exact ha.drop hl

def four (a b c d : Nat) : Nat → Nat := fun j => if j = 0 then a else if j = 1 then b else if j = 2 then c else d
theorem own_four8 (w : World) (a b c d : Nat) : Own .u8 5 (w.alloc (.cells #[.int .u8 (a : Nat), .int .u8 (b : Nat), .int .u8 (c : Nat), .int .u8 (d : Nat)] 5)) w.heap.size (.slice (some ⟨w.heap.size, 0, none⟩) 4 4) 4 (four a b c d) :=
  World.ownsRow_lit w _ 4 (Nat.le_refl _) (by simp only [maxLen]; omega) rfl
theorem own_seal8 (w : World) (s : Nat) (f : Nat → Nat) (hs : s < 4294967296) : Own .u8 5 (w.alloc (.cells #[.int .u8 ((s : Int) % 256), .int .u8 ((s : Int) / 256 % 256), .int .u8 ((s : Int) / 65536 % 256), .int .u8 ((s : Int) / 16777216)] 5)) w.heap.size (.slice (some ⟨w.heap.size, 0, none⟩) 4 4) 4 (sealF s f) :=
  (own_four8 w (s % 256) (s / 256 % 256) (s / 65536 % 256) (s / 16777216)).congr fun j hj => by
    unfold four sealF
    rw [if_pos hj]
    have : j = 0 ∨ j = 1 ∨ j = 2 ∨ j = 3 := by omega
    rcases this with rfl | rfl | rfl | rfl
    · simp
    · simp
    · simp
    · simp; omega

set_option maxHeartbeats 2000000 in
theorem rseal_any (A : Option Addr) (n c : Nat) (f : Nat → Nat) (w : World) (hr : Rd .u8 w A n f) (hf : ∀ j, j < n → f j < 256) (hn : n ≤ 1000000) (hA : A = none → n = 0 ∧ c = 0) :
    Calls Try.prog 15 #[.slice A n c] w fun e w' => SealPost w w' e n f := by
  have HR := Lib.hid hr
  have HF := Lib.hid hf
  have HA := Lib.hid hA
  clear hr hf hA
  go_enter Try.func15, Try.ntmps15
  have hSl := crcN_lt (f := f) (n := n) HF.out
  have hsum := rsum_any A n c f w HR.out HF.out (by omega)
  generalize hS : crcN f n = S at *
  have HS := Lib.hid hS
  have HSM := Lib.hid hsum
  clear hS hsum
  have hown := own_seal8 w S f hSl
  have HB := Lib.hid (below_new w (.cells #[.int .u8 ((S : Int) % 256), .int .u8 ((S : Int) / 256 % 256), .int .u8 ((S : Int) / 65536 % 256), .int .u8 ((S : Int) / 16777216)] 5))
  have hrd := HR.out.below HB.out
  go_wp2_with (first | (go_at_call 13; refine HSM.out.mono ?_; rintro e w' ⟨rfl, rfl⟩) | (at_builtin; refine wpList_app rfl (.tmp 20) (.tmp 21) 22 rfl .u8 5 Try.underlying22 1 u8_info (by omega) w.heap.size _ 4 (sealF S f) rfl hown A n c f rfl hrd HA.out (by omega) (by simp) ?_; intro v2 w5 hown2 hb2 hsz2; have HO2 := Lib.hid hown2; have HB2 := Lib.hid (HB.out.trans hb2); clear hown hrd hown2 hb2 hsz2))
  go_ret
  refine ⟨v2, rfl, ?_, HB2.out⟩
  rw [HS.out]
  exact own_byt (HO2.out.congr fun j hj => by unfold appF sealF; by_cases h4 : j < 4 <;> simp [h4]) (sealF_lt HF.out)

def OpenB (f : Nat → Nat) (n : Nat) : Bool := decide (4 ≤ n ∧ num 256 f 4 = crcN (fun j => f (4 + j)) (n - 4))
def OpenYes (w w' : World) (e : Ending) (n : Nat) (f : Nat → Nat) : Prop := ∃ v, e = .returned (.tuple #[v, .bool true]) ∧ Byt w' v (n - 4) (fun j => f (4 + j)) ∧ Below w.heap.size w w'
def OpenNo (w w' : World) (e : Ending) : Prop := e = .returned (.tuple #[.slice none 0 0, .bool false]) ∧ Below w.heap.size w w'
def OpenPost (w w' : World) (e : Ending) (n : Nat) (f : Nat → Nat) : Prop := (OpenB f n = true ∧ OpenYes w w' e n f) ∨ (OpenB f n = false ∧ OpenNo w w' e)
theorem four_num {f : Nat → Nat} {S : Nat} (hf : ∀ j, j < 4 → f j < 256) (hS : S < 4294967296) : num 256 f 4 = S ↔ ∀ j, j < 4 → f j = S / 256 ^ j % 256 := by
  have e : num 256 f 4 = f 0 + f 1 * 256 + f 2 * 65536 + f 3 * 16777216 := by simp [num]
  have h0 := hf 0 (by omega)
  have h1 := hf 1 (by omega)
  have h2 := hf 2 (by omega)
  have h3 := hf 3 (by omega)
  rw [e]
  constructor
  · intro h j hj
    have : j = 0 ∨ j = 1 ∨ j = 2 ∨ j = 3 := by omega
    rcases this with rfl | rfl | rfl | rfl
    · simp; omega
    · simp; omega
    · simp; omega
    · simp; omega
  · intro h
    have q0 := h 0 (by omega)
    have q1 := h 1 (by omega)
    have q2 := h 2 (by omega)
    have q3 := h 3 (by omega)
    simp at q0 q1 q2 q3
    omega
theorem openB_true {f : Nat → Nat} {n : Nat} (h : 4 ≤ n) (hf : ∀ j, j < n → f j < 256) (hq : ∀ j, j < 4 → f j = crcN (fun j => f (4 + j)) (n - 4) / 256 ^ j % 256) : OpenB f n = true := by
  unfold OpenB
  rw [decide_eq_true_eq]
  exact ⟨h, (four_num (fun j hj => hf j (by omega)) (crcN_lt fun j hj => hf (4 + j) (by omega))).2 hq⟩
theorem openB_false {f : Nat → Nat} {n k : Nat} (hf : ∀ j, j < n → f j < 256) (h4 : 4 ≤ n) (hk : k < 4) (hq : f k ≠ crcN (fun j => f (4 + j)) (n - 4) / 256 ^ k % 256) : OpenB f n = false := by
  unfold OpenB
  rw [decide_eq_false_iff_not]
  intro h
  exact hq ((four_num (fun j hj => hf j (by omega)) (crcN_lt fun j hj => hf (4 + j) (by omega))).1 h.2 k hk)
theorem openB_few {f : Nat → Nat} {n : Nat} (h : n < 4) : OpenB f n = false := by
  unfold OpenB
  rw [decide_eq_false_iff_not]
  omega

set_option maxHeartbeats 2000000 in
theorem ropen_any (A : Option Addr) (n c : Nat) (f : Nat → Nat) (w : World) (hr : Rd .u8 w A n f) (hf : ∀ j, j < n → f j < 256) (hn : n ≤ 1000000) (hc : n ≤ c) :
    Calls Try.prog 10 #[.slice A n c] w fun e w' => OpenPost w w' e n f := by
  have HR := Lib.hid hr
  have HF := Lib.hid hf
  clear hr hf
  by_cases h4 : n < 4
  · have HN := Lib.hid (openB_few (f := f) h4)
    go_enter Try.func10, Try.ntmps10
    go_wp2
    go_ret2
    exact .inr ⟨HN.out, rfl, Below.refl _ _⟩
  · obtain ⟨ad, rfl, _⟩ := HR.out.some_ (by omega)
    obtain ⟨B, hsl, hB⟩ := rest_at ad n c 4 f w HR.out hc (by omega)
    have HB := Lib.hid hB
    have hF4 : ∀ j, j < n - 4 → f (4 + j) < 256 := fun j hj => HF.out _ (by omega)
    have HF4 := Lib.hid hF4
    have HBY := Lib.hid (show Byt w (.slice (some B) (n - 4) (c - 4)) (n - 4) (fun j => f (4 + j)) from ⟨_, _, rfl, by omega, hB, hF4⟩)
    clear hB hF4
    have hsl4 := fun wq => hsl wq 4 rfl
    have HSL := Lib.hid hsl4
    clear hsl hsl4
    go_enter Try.func10, Try.ntmps10
    have hs := HSL.out w
    go_wp2_with (go_at_call 15; refine (rseal_any (some B) (n - 4) (c - 4) _ w HB.out HF4.out (by omega) (fun h => by cases h)).mono ?_; rintro e w1 ⟨v, rfl, hbv, hb1⟩)
    obtain ⟨As, cs, rfl, hcs, hrs, _⟩ := hbv
    have HRS := Lib.hid hrs
    have HB1 := Lib.hid hb1
    clear hs hrs hb1
    have HOT := Lib.hid (fun (h : ∀ j, j < 4 → f j = crcN (fun j => f (4 + j)) (n - 4) / 256 ^ j % 256) => openB_true (by omega) HF.out h)
    have HOF := Lib.hid (fun (k : Nat) (hk : k < 4) (h : f k ≠ crcN (fun j => f (4 + j)) (n - 4) / 256 ^ k % 256) => openB_false (n := n) HF.out (by omega) hk h)
    generalize crcN (fun j => f (4 + j)) (n - 4) = S at *
    go_loopw [5] (fun v wr => ∃ k : Nat, k ≤ 4 ∧ v = .int .i64 k ∧ Below w.heap.size w wr ∧ Below w1.heap.size w1 wr ∧ ∀ j, j < k → f j = S / 256 ^ j % 256) (fun v _ => 4 - (intOf v).toNat)
    case atStart => exact ⟨0, by omega, rfl, HB1.out, Below.refl _ _, fun j hj => absurd hj (by omega)⟩
    case round =>
      obtain ⟨k, hk, rfl, hbl, hbl1, hall⟩ := hrel
      have HBL := Lib.hid hbl
      have HBL1 := Lib.hid hbl1
      have HALL := Lib.hid hall
      clear hbl hbl1 hall
      by_cases hlt : k < 4
      · have hcell : wr.cell? (ad.add k) = some (.int .u8 (f k : Nat)) := (HR.out.below HBL.out).at_ (by omega)
        obtain ⟨sa, rfl, hcs⟩ := (HRS.out.below HBL1.out) k (by omega)
        have HQ : Hid (sealF S (fun j => f (4 + j)) k = S / 256 ^ k % 256) := by show _ = _; unfold sealF; rw [if_pos hlt]
        generalize sealF S (fun j => f (4 + j)) k = y at *
        by_cases hq : f k = y
        · rw [← hq] at hcs
          have HQ2 := Lib.hid hq
          clear hq
          generalize hx : f k = x at *
          have HX := Lib.hid hx
          clear hx
          go_wp2
          go_quiet (fail)
          go_wp2
          go_roundw
          case rel => exact ⟨k + 1, by omega, by go_num, Below.drewN_ HBL.out _, Below.drewN_ HBL1.out _, fun j hj => by
            by_cases hjk : j = k
            · subst hjk; rw [HX.out, HQ2.out, HQ.out]
            · exact HALL.out j (by omega)⟩
          case measure => simp [intOf]; omega
        · have HN := Lib.hid (HOF.out k hlt (fun e => hq (by rw [e, HQ.out])))
          have hne : ((y : Int) == (f k : Int)) = false := by rw [beq_eq_false_iff_ne]; omega
          have hne2 : ((y : Int) != (f k : Int)) = true := by rw [bne_iff_ne]; omega
          clear hq
          go_wp2
          go_quiet (fail)
          go_wp2
          go_ret2
          exact .inr ⟨HN.out, rfl, Below.drewN_ HBL.out _⟩
      · obtain rfl : k = 4 := by omega
        have hs := HSL.out wr
        have HY := Lib.hid (HOT.out HALL.out)
        go_wp2
        go_ret2
        exact .inl ⟨HY.out, _, rfl, HBY.out.below HBL.out, HBL.out⟩
end Go.Proofs.Ytjijfbllbajdoaa
