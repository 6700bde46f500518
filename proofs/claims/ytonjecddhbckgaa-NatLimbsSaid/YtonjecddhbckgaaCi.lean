/- Contracts: Mul. -/
import Derived.Test.YtonjecddhbckgaaCh
import Derived.Test.YtonjecddhbckgaaLaw
import Derived.Deep.RegionWith
namespace Go.Proofs.Ytonjecddhbckgaa
open Go.RowKit

/-- After k limbs of Mul. -/
def MulInv (w wr : World) (g p q k : Nat) (f h F : Nat → Nat) : Prop :=
  Row .u32 41 wr g (p + q) F ∧ Wr g w wr ∧ (∀ j, j < p + q → F j < 4294967296) ∧ (∀ j, k + q ≤ j → F j = 0) ∧ num 4294967296 F (k + q) = num 4294967296 f k * num 4294967296 h q

theorem MulInv.step {w wr w2 : World} {g p q k cy : Nat} {f h F F' : Nat → Nat} (hi : MulInv w wr g p q k f h F) (ht : TimesInv wr w2 g k (p + q) q cy (f k) F h F') :
    MulInv w (w2.setCell ⟨g, k + q, none⟩ (.int .u32 (cy : Nat))) g p q (k + 1) f h (upd F' (k + q) cy) := by
  obtain ⟨h1, h2, h3, h4, h5⟩ := hi
  obtain ⟨t1, t2, t3, t4, t5, t6⟩ := ht
  refine ⟨t2.set_ _ _, (h2.trans t3).setCell _ _, fun j hj => ?_, fun j hj => ?_, ?_⟩
  · by_cases hjk : j = k + q
    · subst hjk; rw [upd_same]; exact t1
    · rw [upd_ne _ _ _ hjk]
      by_cases hin : k ≤ j ∧ j < k + q
      · have := t5 (j - k) (by omega)
        rwa [show k + (j - k) = j from by omega] at this
      · rw [t4 j hin]; exact h3 j hj
  · rw [upd_ne _ _ _ (by omega), t4 j (by omega)]; exact h4 j (by omega)
  · rw [show k + 1 + q = (k + q) + 1 from by omega, num_succ, upd_same, num_upd _ _ (Nat.le_refl _), num_add, num_succ]
    rw [num_add] at h5
    have e1 : num 4294967296 F' k = num 4294967296 F k := num_congr k fun j hj => t4 j (by omega)
    rw [e1, Nat.add_mul, ← h5, Nat.pow_add]
    generalize num 4294967296 (fun j => F' (k + j)) q = X at *
    generalize num 4294967296 (fun j => F (k + j)) q = Y at *
    generalize 4294967296 ^ q = T at *
    generalize 4294967296 ^ k = S at *
    have e2 : S * (X + cy * T) = S * (Y + f k * num 4294967296 h q) := by rw [t6]
    rw [Nat.mul_add, Nat.mul_add] at e2
    have e3 : cy * (S * T) = S * (cy * T) := by rw [← Nat.mul_assoc, ← Nat.mul_assoc, Nat.mul_comm cy S]
    have e4 : f k * S * num 4294967296 h q = S * (f k * num 4294967296 h q) := by rw [← Nat.mul_assoc, Nat.mul_comm (f k) S]
    rw [e3, e4]
    omega

theorem MulInv.drew {w wr : World} {g p q k : Nat} {f h F : Nat → Nat} (hi : MulInv w wr g p q k f h F) : MulInv w wr.drew g p q k f h F := by
  obtain ⟨h1, h2, h3⟩ := hi
  exact ⟨h1.drew, h2.drew, h3⟩

theorem isNat_nil (w : World) : IsNat w (.slice none 0 0) 0 :=
  ⟨none, 0, 0, fun _ => 0, rfl, Nat.le_refl _, Rd.zero, fun j hj => absurd hj (by omega), .inl rfl, rfl⟩

set_option maxHeartbeats 1000000 in
theorem mul_zero (A : Option Addr) (n c : Nat) (f : Nat → Nat) (B : Option Addr) (m d : Nat) (h : Nat → Nat) (w : World) (ha : Rd .u32 w A n f) (hc : n ≤ c) (hn : n ≤ 8796093022208)
    (hb : Rd .u32 w B m h) (hd : m ≤ d) (hm : m ≤ 8796093022208) (h0 : tlen f n = 0 ∨ tlen h m = 0) :
    Calls Try.prog 22 #[.slice A n c, .slice B m d] w fun e w' => NatPost w w' e (num 4294967296 f n * num 4294967296 h m) := by
  have hN : num 4294967296 f n * num 4294967296 h m = 0 := by
    rcases h0 with h0 | h0
    · rw [(tlen_zero_iff (by omega)).1 h0, Nat.zero_mul]
    · rw [(tlen_zero_iff (by omega)).1 h0, Nat.mul_zero]
  rw [hN]
  have C1 := fun w' hr' => cut_any A n c f w' hr' hc (by omega)
  have C2 := fun w' hr' => cut_any B m d h w' hr' hd (by omega)
  have D1 := Lib.hid C1
  have D2 := Lib.hid C2
  clear C1 C2 hN
  have hq : tlen h m ≤ m := tlen_le m
  generalize tlen h m = q at *
  generalize tlen f n = p at *
  by_cases hp : p = 0
  · subst hp
    have hg1 : (((0 : Nat) : Int) == 0) = true := by decide
    clear h0
    go_enter Try.func22, Try.ntmps22
    go_wp2_with fail
    refine (D1.out _ ha).mono ?_
    rintro e w' ⟨rfl, rfl⟩
    go_wp2_with fail
    refine (D2.out _ hb).mono ?_
    rintro e w' ⟨rfl, rfl⟩
    go_wp2
    go_ret
    exact ⟨_, rfl, isNat_nil _, Below.refl _ _⟩
  · obtain rfl : q = 0 := by omega
    have hg1 : ((p : Int) == 0) = false := by rw [beq_eq_false_iff_ne]; omega
    have hg2 : (((0 : Nat) : Int) == 0) = true := by decide
    clear h0 hp
    go_enter Try.func22, Try.ntmps22
    go_wp2_with fail
    refine (D1.out _ ha).mono ?_
    rintro e w' ⟨rfl, rfl⟩
    go_wp2_with fail
    refine (D2.out _ hb).mono ?_
    rintro e w' ⟨rfl, rfl⟩
    go_wp2
    go_ret
    exact ⟨_, rfl, isNat_nil _, Below.refl _ _⟩

set_option maxHeartbeats 2000000 in
theorem mul_pos (A : Option Addr) (n c : Nat) (f : Nat → Nat) (B : Option Addr) (m d : Nat) (h : Nat → Nat) (w : World) (ha : Rd .u32 w A n f) (hc : n ≤ c) (hn : n ≤ 8796093022208) (hf : ∀ j, j < n → f j < 4294967296)
    (hb : Rd .u32 w B m h) (hd : m ≤ d) (hm : m ≤ 8796093022208) (hh : ∀ j, j < m → h j < 4294967296) (hp : 0 < tlen f n) (hq : 0 < tlen h m) :
    Calls Try.prog 22 #[.slice A n c, .slice B m d] w fun e w' => NatPost w w' e (num 4294967296 f n * num 4294967296 h m) := by
  rw [← num_tlen (f := f) n, ← num_tlen (f := h) m]
  have C1 := fun w' hr' => cut_any A n c f w' hr' hc (by omega)
  have C2 := fun w' hr' => cut_any B m d h w' hr' hd (by omega)
  have D1 := Lib.hid C1
  have D2 := Lib.hid C2
  have hpn := tlen_le (f := f) n
  have hqm := tlen_le (f := h) m
  have HF := Lib.hid (tlen_lt_dig hf)
  have HH := Lib.hid (tlen_lt_dig hh)
  clear C1 C2 hf hh
  generalize tlen h m = q at *
  generalize tlen f n = p at *
  have hg1 : ((p : Int) == 0) = false := by rw [beq_eq_false_iff_ne]; omega
  have hg2 : ((q : Int) == 0) = false := by rw [beq_eq_false_iff_ne]; omega
  go_enter Try.func22, Try.ntmps22
  go_wp2_with fail
  refine (D1.out _ ha).mono ?_
  rintro e w' ⟨rfl, rfl⟩
  go_wp2_with fail
  refine (D2.out _ hb).mono ?_
  rintro e w' ⟨rfl, rfl⟩
  clear D1 D2
  go_wp2_with (at_make; refine wpList_make_row rfl _ _ 22 rfl .u32 41 Try.underlying22 4 u32_info (by omega) .i64 .i64 _ _ (p + q) rfl rfl (by omega) (by omega) (by omega) ?_; intro w1 hrow1 hb1 hs1)
  have HA := Lib.hid ((ha.below hb1).less hpn)
  have HB := Lib.hid ((hb.below hb1).less hqm)
  have HOA : Hid (Off A w.heap.size) := (ha.less hpn).off_lt hp (Nat.le_refl _)
  have HOB : Hid (Off B w.heap.size) := (hb.less hqm).off_lt hq (Nat.le_refl _)
  clear ha hb
  go_loopw [27] (fun v27 wr => ∃ k F, k ≤ p ∧ v27 = .int .i64 (k : Nat) ∧ MulInv w1 wr w.heap.size p q k f h F) (fun v27 _ => p - (intOf v27).toNat)
  case atStart => exact ⟨0, _, Nat.zero_le _, rfl, hrow1, Wr.refl, fun _ _ => by omega, fun _ _ => rfl, by rw [num_zeros _ (fun _ _ => rfl)]; simp [num]⟩
  case round =>
    obtain ⟨k, F, hk, rfl, hinv⟩ := hrel
    clear hrow1
    by_cases hlt : k < p
    · obtain ⟨ad, rfl, hcell⟩ := (HA.out.wr HOA.out hinv.2.1) k hlt
      have b1 : f k < 4294967296 := HF.out k hlt
      have hsl : ∀ w' : World, (Instr.slice 22 (.slice (some ⟨w.heap.size, 0, none⟩) (p + q) (p + q)) (some (.int .i64 (k : Int))) (some (.int .i64 ((k : Int) + (q : Int)))) none).run Try.prog w' = .ok (.slice (some ⟨w.heap.size, k, none⟩) q (p + q - k)) w' := fun w' => by
        have := sl22_lh w.heap.size 0 (p + q) (p + q) k (k + q) (by omega) (by omega) (by omega) w'
        rw [Nat.zero_add, Nat.add_sub_cancel_left] at this
        exact this
      have D : Hid (∀ w', Row .u32 41 w' w.heap.size (p + q) F → Rd .u32 w' B q h → Calls Try.prog 46 #[.slice (some ⟨w.heap.size, k, none⟩) q (p + q - k), .slice B q d, .int .u32 (f k : Nat)] w' fun e w2 => TimesPost w' w2 e w.heap.size k (p + q) q (f k) F h) :=
        fun w' r1 r2 => addTimes_any w.heap.size k q (p + q - k) B q d (p + q) (f k) F h w' r1 (by omega) (Nat.le_refl _) b1 r2 (fun _ => HOB.out) (fun j hj => hinv.2.2.1 _ (by omega)) HH.out (by omega)
      have R1 := Lib.hid hinv.1
      have R2 := Lib.hid (HB.out.wr HOB.out hinv.2.1)
      have HI := Lib.hid hinv
      have hpq : k + q < p + q := by omega
      have hi0 : (0 : Int) ≤ (k : Int) + (q : Int) := by omega
      have htn : ((k : Int) + (q : Int)).toNat = k + q := by omega
      have hwr : IntKind.i64.wrap ((k : Int) + (q : Int)) = (k : Int) + (q : Int) := IntWalk.i64_in _ (by omega)
      clear hinv
      go_wp2
      go_region_with (go_at_call 46; refine (D.out (World.drew wr) R1.out.drew R2.out.drew).mono ?_; rintro e w2 ⟨cy, F2, rfl, hti⟩; have hcell4 := hti.2.1.cell (j := k + q) (by omega); have hfz := hti.2.1.frozen (k + q))
      all_goals
        have HS := Lib.hid (HI.out.drew.step hti)
        clear hti
        go_wp2
        go_roundw
        case rel => exact ⟨k + 1, _, by omega, by go_num, HS.out⟩
        case measure => simp [intOf]; omega
    · obtain rfl : k = p := by omega
      have hrd := hinv.1.rd0 (Nat.le_refl _)
      have q1 : IsNat wr (.slice (some ⟨w.heap.size, 0, none⟩) (tlen F (k + q)) (k + q)) (num 4294967296 f k * num 4294967296 h q) :=
        isNat_row hinv.1 (Nat.le_refl _) (Nat.le_refl _) hinv.2.2.1 hinv.2.2.2.2
      have q2 : Below w.heap.size w wr := hinv.2.1.below hb1 hb1.size (Nat.le_refl _)
      clear hinv
      go_wp2_with fail
      refine (cut_any _ (k + q) (k + q) _ _ hrd (Nat.le_refl _) (by omega)).mono ?_
      rintro e w' ⟨rfl, rfl⟩
      go_wp2
      go_ret
      exact ⟨_, rfl, q1, q2⟩

theorem mul_any (A : Option Addr) (n c : Nat) (f : Nat → Nat) (B : Option Addr) (m d : Nat) (h : Nat → Nat) (w : World) (ha : Rd .u32 w A n f) (hc : n ≤ c) (hn : n ≤ 8796093022208) (hf : ∀ j, j < n → f j < 4294967296)
    (hb : Rd .u32 w B m h) (hd : m ≤ d) (hm : m ≤ 8796093022208) (hh : ∀ j, j < m → h j < 4294967296) :
    Calls Try.prog 22 #[.slice A n c, .slice B m d] w fun e w' => NatPost w w' e (num 4294967296 f n * num 4294967296 h m) := by
  by_cases h0 : tlen f n = 0 ∨ tlen h m = 0
  · exact mul_zero A n c f B m d h w ha hc hn hb hd hm h0
  · exact mul_pos A n c f B m d h w ha hc hn hf hb hd hm hh (by omega) (by omega)
end Go.Proofs.Ytonjecddhbckgaa
