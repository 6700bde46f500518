/- Merged of Bc,Be,Bf,Bg,Ta,Rt. -/

import Derived.Test.YtglcififcldchaaGreatDoorPNatE
import Derived.Test.YtglcififcldchaaGreatDoorPNatD
import Derived.Test.YtglcififcldchaaGreatDoorPNatB
import Derived.Test.YtglcififcldchaaGreatDoorPNatC
import Derived.Test.YtglcififcldchaaGreatDoorPNatBb
/- Contracts: getLeast. -/
namespace Go.Proofs.YtglcififcldchaaGreatDoor
open Go.RowKit

theorem byte_or (x y i : Nat) (hx : x < 256 ^ i) (hy : y < 256) (hi : i < 4) : bits BinOp.or IntKind.u32 (x : Int) ((y : Int) * 2 ^ (8 * i) % 4294967296) = ((x + y * 256 ^ i : Nat) : Int) := by
  have e : (256 : Nat) ^ i = 2 ^ (8 * i) := by rw [Nat.pow_mul]
  have h1 : 256 ^ i ≤ 256 ^ 3 := Nat.pow_le_pow_right (by omega) (show i ≤ 3 by omega)
  have h2 : (256 : Nat) ^ 3 = 16777216 := by decide
  have h3 : y * 256 ^ i ≤ 255 * 16777216 := Nat.mul_le_mul (by omega) (by omega)
  rw [show ((y : Int) * 2 ^ (8 * i)) = ((y * 2 ^ (8 * i) : Nat) : Int) from by rw [Int.natCast_mul, Int.natCast_pow]; rfl, ← e]
  have h4 : (((y * 256 ^ i : Nat) : Int) % 4294967296) = ((y * 256 ^ i : Nat) : Int) := by omega
  rw [h4, u32_or_nat _ _ (by omega) (by omega)]
  congr 1
  rw [e] at hx ⊢
  rw [Nat.or_comm, Nat.add_comm, Nat.mul_comm]
  exact (Nat.two_pow_add_eq_or_of_lt hx y).symm

set_option maxHeartbeats 1000000 in
theorem getLeast_any (A : Option Addr) (k c : Nat) (f : Nat → Nat) (w : World) (ha : Rd .u8 w A k f) (hk : k ≤ 4) (hf : ∀ j, j < k → f j < 256) :
    Calls Tryz.prog 142 #[.slice A k c] w fun e w' => e = .returned (.int .u32 (num 256 f k : Nat)) ∧ w' = w := by
  have HF := Lib.hid hf
  have HA := Lib.hid ha
  clear ha hf
  go_enter Tryz.func142, Tryz.ntmps142
  go_wp2
  go_loopw [3, 7] (fun v3 v7 wr => ∃ i, i ≤ k ∧ v3 = .int .u32 (num 256 f i : Nat) ∧ v7 = .int .i64 (i : Nat) ∧ wr = w) (fun _ v7 _ => k - (intOf v7).toNat)
  case atStart => exact ⟨0, Nat.zero_le _, rfl, rfl, rfl⟩
  case round =>
    obtain ⟨i, hi, rfl, rfl, rfl⟩ := hrel
    by_cases hlt : i < k
    · obtain ⟨ad, rfl, hcell⟩ := HA.out i hlt
      have b0 := HF.out i hlt
      have b1 : num 256 f i < 256 ^ i := num_lt (by omega) i (fun j hj => HF.out j (by omega))
      obtain ⟨x, hx⟩ : ∃ x, x = num 256 f i := ⟨_, rfl⟩
      have HX : Hid (num 256 f (i + 1) = x + f i * 256 ^ i) := by rw [hx]; rfl
      rw [← hx] at b1 ⊢
      clear hx
      generalize f i = y at *
      have HO := Lib.hid (byte_or x y i b1 b0 (by omega))
      go_wp2
      go_roundw
      case rel => exact ⟨i + 1, by omega, by rw [HO.out, HX.out], by go_num, trivial⟩
      case measure => simp [intOf]; omega
    · obtain rfl : i = k := by omega
      go_wp2
      go_ret
      exact ⟨rfl, rfl⟩
end Go.Proofs.YtglcififcldchaaGreatDoor

/- Contracts: Read. -/
namespace Go.Proofs.YtglcififcldchaaGreatDoor
open Go.RowKit

/-- How many limbs, and the limbs, that bytes tell. -/
def cntOf (f : Nat → Nat) : Nat := f 0 + 256 * f 1
def limbAt (f : Nat → Nat) (i : Nat) : Nat := num 256 (fun j => f (2 + 4 * i + j)) 4
def Readable (f : Nat → Nat) (n : Nat) : Prop := 2 ≤ n ∧ cntOf f ≤ 4096 ∧ 2 + 4 * cntOf f ≤ n ∧ (0 < cntOf f → limbAt f (cntOf f - 1) ≠ 0)
def ReadNo (w w' : World) (e : Ending) : Prop := e = .returned (.tuple #[.slice none 0 0, .slice none 0 0, .bool false]) ∧ Below w.heap.size w w'
def ReadYes (w w' : World) (e : Ending) (f : Nat → Nat) (n : Nat) : Prop :=
  ∃ va B d, e = .returned (.tuple #[va, .slice B (n - (2 + 4 * cntOf f)) d, .bool true]) ∧ IsNat w' va (num 4294967296 (limbAt f) (cntOf f)) ∧
    n - (2 + 4 * cntOf f) ≤ d ∧ Rd .u8 w' B (n - (2 + 4 * cntOf f)) (fun j => f (2 + 4 * cntOf f + j)) ∧ Below w.heap.size w w'

theorem limbAt_lt {f : Nat → Nat} {n i : Nat} (hf : ∀ j, j < n → f j < 256) (hi : 2 + 4 * i + 4 ≤ n) : limbAt f i < 4294967296 := by
  have := num_lt (B := 256) (f := fun j => f (2 + 4 * i + j)) (by omega) 4 (fun j hj => hf _ (by omega))
  exact Nat.lt_of_lt_of_le this (by decide)
theorem sl32_at (ad : Addr) (len cap l h : Nat) (h1 : l ≤ h) (h2 : h ≤ cap) (h3 : l < cap) (w : World) :
    (Instr.slice 40 (.slice (some ad) len cap) (some (.int .i64 l)) (some (.int .i64 h)) none).run Tryz.prog w = .ok (.slice (some (ad.add l)) (h - l) (cap - l)) w := by
  rw [run_slice_lh w 40 (some ad) len cap el32 .i64 .i64 l h (by omega) (by omega) (by omega), sz32]
  simp only [Result.andThen, sliced, Int.toNat_natCast, Nat.mul_one]
  rw [if_neg (by omega)]
  rfl

theorem rest_at (ad : Addr) (n c l : Nat) (f : Nat → Nat) (w : World) (ha : Rd .u8 w (some ad) n f) (hc : n ≤ c) (hl : l ≤ n) :
    ∃ B, (∀ (wq : World) (L : Int), L = l → (Instr.slice 40 (.slice (some ad) n c) (some (.int .i64 L)) none none).run Tryz.prog wq = .ok (.slice B (n - l) (c - l)) wq) ∧ Rd .u8 w B (n - l) (fun j => f (l + j)) := by
  refine ⟨if c = l then some ad else some (ad.add l), fun wq L hL => ?_, ?_⟩
  · subst hL
    rw [run_slice_l wq 40 (some ad) n c el32 .i64 l (by omega) (by omega), sz32]
    simp only [Result.andThen, sliced, Int.toNat_natCast, Nat.mul_one, Option.map_some]
  · by_cases h : c = l
    · obtain rfl : l = n := by omega
      rw [Nat.sub_self]
      exact Rd.zero
    · rw [if_neg h]
      exact ha.drop hl

def ReadInv (w wr : World) (k i : Nat) (f F : Nat → Nat) : Prop :=
  Row .u32 86 wr w.heap.size k F ∧ Below w.heap.size w wr ∧ ∀ j, j < i → F j = limbAt f j
theorem ReadInv.step {w wr : World} {k i : Nat} {f F : Nat → Nat} (h : ReadInv w wr k i f F) : ReadInv w (wr.setCell ⟨w.heap.size, i, none⟩ (.int .u32 (limbAt f i : Nat))) k (i + 1) f (upd F i (limbAt f i)) := by
  obtain ⟨h1, h2, h3⟩ := h
  refine ⟨h1.set_ _ _, h2.setCell (Nat.le_refl _) _, fun j hj => ?_⟩
  by_cases hji : j = i
  · subst hji; rw [upd_same]
  · rw [upd_ne _ _ _ hji]; exact h3 j (by omega)

set_option maxHeartbeats 1000000 in
theorem read_short (A : Option Addr) (n c : Nat) (w : World) (hn : n < 2) :
    Calls Tryz.prog 116 #[.slice A n c] w fun e w' => ReadNo w w' e := by
  go_enter Tryz.func116, Tryz.ntmps116
  go_wp2
  go_ret3
  exact ⟨rfl, Below.refl _ _⟩

set_option maxHeartbeats 1000000 in
theorem read_long (ad : Addr) (n c : Nat) (f : Nat → Nat) (w : World) (ha : Rd .u8 w (some ad) n f) (hc : n ≤ c) (hn : n ≤ 1000000) (hf : ∀ j, j < n → f j < 256) (h2 : 2 ≤ n) :
    Calls Tryz.prog 116 #[.slice (some ad) n c] w fun e w' => (Readable f n → ReadYes w w' e f n) ∧ (¬ Readable f n → ReadNo w w' e) := by
  have HL := Lib.hid (getLeast_any (some ad) 2 c f w (ha.less h2) (by omega) (fun j hj => hf j (by omega)))
  have hcl : num 256 f 2 = cntOf f := by simp [num, cntOf]; omega
  rw [hcl] at HL
  have hcb : cntOf f < 65536 := by have := hf 0 (by omega); have := hf 1 (by omega); unfold cntOf; omega
  obtain ⟨k, hk⟩ : ∃ k, k = cntOf f := ⟨_, rfl⟩
  rw [← hk] at HL hcb
  have HK := Lib.hid hk
  have HA := Lib.hid ha
  have HF := Lib.hid hf
  clear hcl hk ha hf
  go_enter Tryz.func116, Tryz.ntmps116
  go_wp2_with fail
  refine HL.out.mono ?_
  rintro e w' ⟨rfl, rfl⟩
  clear HL
  by_cases hgo : k ≤ 4096 ∧ 2 + 4 * k ≤ n
  · obtain ⟨hg1, hg2⟩ := hgo
    go_wp2_with (at_make; refine wpList_make_row rfl _ _ 22 rfl .u32 86 Tryz.underlying22 4 u32_info (by omega) .i64 .i64 _ _ k rfl rfl (by omega) (by omega) (by omega) ?_; intro w1 hrow1 hb1 hs1)
    have I0 : Hid (ReadInv w' w1 k 0 f (fun _ => 0)) := ⟨hrow1, hb1, fun j hj => absurd hj (by omega)⟩
    clear hrow1 hb1 hs1
    go_loopw [31] (fun v31 wr => ∃ i F, i ≤ k ∧ v31 = .int .i64 (i : Nat) ∧ ReadInv w' wr k i f F) (fun v31 _ => k - (intOf v31).toNat)
    case atStart => exact ⟨0, _, Nat.zero_le _, rfl, I0.out⟩
    case round =>
      obtain ⟨i, F, hi, rfl, hinv⟩ := hrel
      clear I0
      have HI := Lib.hid hinv
      clear hinv
      by_cases hlt : i < k
      · have hsl : ∀ wq : World, (Instr.slice 40 (.slice (some ad) n c) (some (.int .i64 (2 + 4 * (i : Int)))) (some (.int .i64 (2 + 4 * (i : Int) + 4))) none).run Tryz.prog wq = .ok (.slice (some (ad.add (2 + 4 * i))) 4 (c - (2 + 4 * i))) wq := fun wq => by
          have := sl32_at ad n c (2 + 4 * i) (2 + 4 * i + 4) (by omega) (by omega) (by omega) wq
          rw [Nat.add_sub_cancel_left] at this
          exact this
        have GL : Hid (∀ wq, Rd .u8 wq (some ad) n f → Calls Tryz.prog 142 #[.slice (some (ad.add (2 + 4 * i))) 4 (c - (2 + 4 * i))] wq fun e w2 => e = .returned (.int .u32 (limbAt f i : Nat)) ∧ w2 = wq) := fun wq hq =>
          getLeast_any _ 4 _ (fun j => f (2 + 4 * i + j)) wq ((hq.drop (k := 2 + 4 * i) (by omega)).less (by omega)) (by omega) (fun j hj => HF.out _ (by omega))
        have hcell := HI.out.1.cell (j := i) hlt
        have hfz := HI.out.1.frozen i
        have HS := Lib.hid HI.out.step
        have RB := Lib.hid (HA.out.below HI.out.2.1)
        have hwa : IntKind.i64.wrap (2 + 4 * (i : Int) + 4) = 2 + 4 * (i : Int) + 4 := IntWalk.i64_in _ (by omega)
        clear HI
        go_wp2_with fail
        refine (GL.out _ RB.out).mono ?_
        rintro e w4 ⟨rfl, rfl⟩
        clear GL hsl
        generalize limbAt f i = z at *
        go_wp2
        go_roundw
        case rel => exact ⟨i + 1, _, by omega, by go_num, HS.out⟩
        case measure => simp [intOf]; omega
      · obtain rfl : i = k := by omega
        by_cases hz : 0 < i ∧ limbAt f (i - 1) = 0
        · have HNR : Hid (¬ Readable f n) := fun h => h.2.2.2 (by rw [← HK.out]; exact hz.1) (by rw [← HK.out]; exact hz.2)
          have HBL := Lib.hid HI.out.2.1
          have hcell := HI.out.1.cell (j := i - 1) (by omega)
          rw [HI.out.2.2 (i - 1) (by omega), hz.2] at hcell
          have hi0 : 0 < i := hz.1
          clear hz HI
          have hii : ((i : Int) - 1).toNat = i - 1 := by omega
          go_wp2
          all_goals
            go_ret3
            exact ⟨fun h => absurd h HNR.out, fun _ => ⟨rfl, HBL.out⟩⟩
        · have HRD : Hid (Readable f n) := ⟨h2, by rw [← HK.out]; exact hg1, by rw [← HK.out]; exact hg2, fun h0 h1 => hz ⟨by rw [HK.out]; exact h0, by rw [HK.out]; exact h1⟩⟩
          have IV : Hid (IsNat wr (.slice (some ⟨w'.heap.size, 0, none⟩) i i) (num 4294967296 (limbAt f) i)) :=
            ⟨_, _, _, F, rfl, Nat.le_refl _, HI.out.1.rd0 (Nat.le_refl _), fun j hj => by rw [HI.out.2.2 j hj]; exact limbAt_lt HF.out (by omega), by
              rcases Nat.eq_zero_or_pos i with h0 | h0
              · exact .inl h0
              · right; rw [HI.out.2.2 _ (by omega)]; exact fun h1 => hz ⟨h0, h1⟩, num_congr _ HI.out.2.2⟩
          have HBL := Lib.hid HI.out.2.1
          have RB := Lib.hid (HA.out.below HI.out.2.1)
          have hguard : i = 0 ∨ (0 < i ∧ ∃ z : Nat, 0 < z ∧ wr.cell? ⟨w'.heap.size, i - 1, none⟩ = some (.int .u32 (z : Nat))) := by
            rcases Nat.eq_zero_or_pos i with h0 | h0
            · exact .inl h0
            · refine .inr ⟨h0, limbAt f (i - 1), ?_, ?_⟩
              · rcases Nat.eq_zero_or_pos (limbAt f (i - 1)) with h1 | h1
                · exact absurd ⟨h0, h1⟩ hz
                · exact h1
              · have := HI.out.1.cell (j := i - 1) (by omega)
                rwa [HI.out.2.2 (i - 1) (by omega)] at this
          obtain ⟨B, hB1, hB2⟩ := rest_at ad n c (2 + 4 * i) f wr RB.out hc hg2
          have RB2 := Lib.hid hB2
          clear hz HI hB2 RB
          obtain ⟨m, hm⟩ : ∃ m, m = n - (2 + 4 * i) := ⟨_, rfl⟩
          obtain ⟨d, hd⟩ : ∃ d, d = c - (2 + 4 * i) := ⟨_, rfl⟩
          rw [← hm, ← hd] at hB1
          rw [← hm] at RB2
          have hmd : m ≤ d := by omega
          have hm6 : m ≤ 1000000 := by omega
          have PST : Hid (∀ w3 v, Row .u8 5 w3 v m (splF (fun _ => 0) 0 m (fun j => f (2 + 4 * i + j))) → Below wr.heap.size wr w3 → ReadYes w' w3 (.returned (.tuple #[.slice (some ⟨w'.heap.size, 0, none⟩) i i, .slice (some ⟨v, 0, none⟩) m m, .bool true])) f n) := fun w3 v r1 r2 => by
            refine ⟨_, _, m, by rw [← HK.out, ← hm], by rw [← HK.out]; exact IV.out.below r2, by rw [← HK.out, ← hm]; exact Nat.le_refl _, ?_, below_trans HBL.out r2⟩
            rw [← HK.out, ← hm]
            exact (r1.rd0 (Nat.le_refl _)).congr fun j hj => by simp only [splF]; rw [if_pos (by omega), Nat.sub_zero]
          have HSL := Lib.hid hB1
          clear hm hd hB1 IV
          rcases hguard with rfl | ⟨hi0, z, hz0, hcell⟩
          · have hsl := fun wq => HSL.out wq 2 (by simp)
            go_wp2_with (first
              | (at_make; refine wpList_make_row rfl _ _ 40 rfl .u8 5 Tryz.underlying40 1 u8_info (by omega) .i64 .i64 _ _ m rfl rfl (by omega) (by omega) (by omega) ?_; intro w2 hrow2 hb2 hs2)
              | (with_reducible refine wpList_copy_rd rfl (.tmp 65) (.tmp 66) 40 40 rfl 5 Tryz.underlying40 u8_size .u8 _ 0 m m B m d rfl rfl 5 m (fun _ => 0) hrow2 (fun j => f (2 + 4 * 0 + j)) m (Nat.min_self m).symm (RB2.out.below hb2) (by omega) ?_
                 intro w3 hrow3 hwr3 hs3))
            go_ret3
            exact ⟨fun _ => PST.out _ _ hrow3 (hwr3.below hb2 hb2.size (Nat.le_refl _)), fun h => absurd HRD.out h⟩
          · have hgz : ((z : Int) == 0) = false := by rw [beq_eq_false_iff_ne]; omega
            have hii : ((i : Int) - 1).toNat = i - 1 := by omega
            have hsl := fun wq => HSL.out wq (2 + 4 * (i : Int)) (by omega)
            go_wp2_with (first
              | (at_make; refine wpList_make_row rfl _ _ 40 rfl .u8 5 Tryz.underlying40 1 u8_info (by omega) .i64 .i64 _ _ m rfl rfl (by omega) (by omega) (by omega) ?_; intro w2 hrow2 hb2 hs2)
              | (with_reducible refine wpList_copy_rd rfl (.tmp 65) (.tmp 66) 40 40 rfl 5 Tryz.underlying40 u8_size .u8 _ 0 m m B m d rfl rfl 5 m (fun _ => 0) hrow2 (fun j => f (2 + 4 * i + j)) m (Nat.min_self m).symm (RB2.out.below hb2) (by omega) ?_
                 intro w3 hrow3 hwr3 hs3))
            go_ret3
            exact ⟨fun _ => PST.out _ _ hrow3 (hwr3.below hb2 hb2.size (Nat.le_refl _)), fun h => absurd HRD.out h⟩
  · have HNR : Hid (¬ Readable f n) := fun h => hgo (by have h1 := h.2.1; have h2 := h.2.2.1; rw [← HK.out] at h1 h2; exact ⟨h1, h2⟩)
    by_cases hg1 : k ≤ 4096
    · have hg2 : n < 2 + 4 * k := by omega
      clear hgo
      go_wp2
      all_goals
        go_ret3
        exact ⟨fun h => absurd h HNR.out, fun _ => ⟨rfl, Below.refl _ _⟩⟩
    · have hg3 : 4096 < k := by omega
      clear hgo
      go_wp2
      all_goals
        go_ret3
        exact ⟨fun h => absurd h HNR.out, fun _ => ⟨rfl, Below.refl _ _⟩⟩
end Go.Proofs.YtglcififcldchaaGreatDoor

/- Contracts of the document's own bytes: Rows, Bytes. -/
namespace Go.Proofs.YtglcififcldchaaGreatDoor
open Go.RowKit

set_option maxHeartbeats 1000000 in
theorem rows_true (A : Option Addr) (n c : Nat) (f : Nat → Nat) (B : Option Addr) (d : Nat) (h : Nat → Nat) (w : World) (ha : Rd .u8 w A n f) (hb : Rd .u8 w B n h) (hn : n ≤ 4611686018427387904) (he : ∀ j, j < n → f j = h j) :
    Calls Tryz.prog 46 #[.slice A n c, .slice B n d] w fun e w' => e = .returned (.bool true) ∧ Below w.heap.size w w' := by
  go_enter Tryz.func46, Tryz.ntmps46
  go_wp2
  go_loopw [5] (fun v wr => ∃ k : Nat, k ≤ n ∧ v = .int .i64 k ∧ Below w.heap.size w wr) (fun v _ => n - (intOf v).toNat)
  case atStart => exact ⟨0, Nat.zero_le _, rfl, Below.refl _ _⟩
  case round =>
    obtain ⟨k, hk, rfl, hbl⟩ := hrel
    have HA := Lib.hid ha
    have HB := Lib.hid hb
    have HE := Lib.hid he
    clear ha hb he
    by_cases hlt : k < n
    · obtain ⟨ad, rfl, hc1⟩ := (HA.out.below hbl) k hlt
      obtain ⟨bd, rfl, hc2⟩ := (HB.out.below hbl) k hlt
      rw [← HE.out k hlt] at hc2
      go_wp2
      go_quiet (fail)
      go_wp2
      go_roundw
      case rel => exact ⟨k + 1, by omega, by go_num, Below.drewN_ hbl _⟩
      case measure => simp [intOf]; omega
    · go_wp2
      go_ret
      exact ⟨rfl, hbl⟩

theorem own_two8 (w : World) (x y : Nat) : Own .u8 5 (w.alloc (.cells #[.int .u8 (x : Nat), .int .u8 (y : Nat)] 5)) w.heap.size (.slice (some ⟨w.heap.size, 0, none⟩) 2 2) 2 (two x y) :=
  World.ownsRow_lit w _ 2 (Nat.le_refl _) (by simp only [maxLen]; omega) rfl

theorem byteOf_limb {p i k : Nat} {f : Nat → Nat} (hk : k < 4) : byteOf p f (2 + 4 * i + k) = f i / 256 ^ k % 256 := by
  unfold byteOf
  rw [if_neg (by omega), show (2 + 4 * i + k - 2) / 4 = i from by omega, show (2 + 4 * i + k - 2) % 4 = k from by omega]

def RbInv (w wr : World) (v : Value) (q p : Nat) (f : Nat → Nat) : Prop := Own .u8 5 wr w.heap.size v q (byteOf p f) ∧ Below w.heap.size w wr
theorem RbInv.step {w wr w2 : World} {v : Value} {q p x : Nat} {f : Nat → Nat} (hb : Below w.heap.size w wr) (h : Own .u8 5 w2 w.heap.size v (q + 1) (appF (byteOf p f) q (fun _ => x))) (h2 : Below w.heap.size (wr.alloc (.cells #[.int .u8 (x : Nat)] 5)) w2) (hx : x = byteOf p f q) :
    RbInv w w2 v (q + 1) p f :=
  ⟨h.congr fun j hj => by
    unfold appF
    split
    · rfl
    · obtain rfl : j = q := by omega
      exact hx, (hb.trans ((below_new wr _).mono hb.size)).trans h2⟩
def RbPost (w w' : World) (e : Ending) (p : Nat) (f : Nat → Nat) : Prop := ∃ v, e = .returned v ∧ Own .u8 5 w' w.heap.size v (2 + 4 * p) (byteOf p f) ∧ Below w.heap.size w w'

set_option maxHeartbeats 2000000 in
theorem rbytes_any {kk : Nat} (v : Value) (N : Nat) (w : World) (ha : Lim kk w v N) (hkk : kk ≤ 4096) :
    Calls Tryz.prog 121 #[v] w fun e w' => ∃ w1 p f, Trimmed f p ∧ (∀ j, j < p → f j < 4294967296) ∧ num 4294967296 f p = N ∧ Below w.heap.size w w1 ∧ RbPost w1 w' e p f := by
  have HT := Lib.hid (lim_rtr ha (by omega))
  have HN := Lib.hid ha.lt
  clear ha
  go_enter Tryz.func121, Tryz.ntmps121
  go_wp2_with fail
  refine HT.out.mono ?_
  rintro e w1 ⟨vt, rfl, ⟨A, p, c, f, rfl, h1, h2, h3, h4, h5⟩, hb1⟩
  have hp : p ≤ kk := h4.len (B := 4294967296) (by omega) (by rw [h5]; exact HN.out)
  have HA := Lib.hid h2
  have H3 := Lib.hid h3
  have H4 := Lib.hid h4
  have H5 := Lib.hid h5
  have HB1 := Lib.hid hb1
  have hp4 : (p : Int) ≤ 4096 := by omega
  have c1 : IntKind.u8.wrap ((p : Int) % 256) = ((p % 256 : Nat) : Int) := by rw [IntKind.wrap_u8]; omega
  have c2 : IntKind.u8.wrap ((p : Int) / 256) = ((p / 256 : Nat) : Int) := by rw [IntKind.wrap_u8]; omega
  clear h2 h3 h4 h5 hb1 HT
  have I0 : Hid (RbInv w1 (w1.alloc (.cells #[.int .u8 ((p : Int) % 256), .int .u8 ((p : Int) / 256)] 5)) (.slice (some ⟨w1.heap.size, 0, none⟩) 2 2) 2 p f) :=
    ⟨(own_two8 w1 (p % 256) (p / 256)).congr fun j hj => by
      unfold two byteOf
      rw [if_pos hj]
      have : j = 0 ∨ j = 1 := by omega
      rcases this with rfl | rfl
      · simp
      · simp; omega, below_new _ _⟩
  go_wp2
  go_loopw [4, 5] (fun v4 v5 wr => ∃ i, i ≤ p ∧ v5 = .int .i64 (i : Nat) ∧ RbInv w1 wr v4 (2 + 4 * i) p f) (fun _ v5 _ => p - (intOf v5).toNat)
  case atStart => exact ⟨0, Nat.zero_le _, rfl, I0.out⟩
  case round =>
    obtain ⟨i, hi, rfl, hinv⟩ := hrel
    clear I0
    have HI := Lib.hid hinv
    clear hinv
    by_cases hlt : i < p
    · obtain ⟨ad, rfl, hcell⟩ := (HA.out.below HI.out.2) i hlt
      have b0 := H3.out i hlt
      obtain ⟨x0, hx0⟩ : ∃ x0, x0 = f i := ⟨_, rfl⟩
      rw [← hx0] at hcell b0
      have HX0 := Lib.hid hx0
      clear hx0
      go_wp2
      go_loopw [4, 6, 7] (fun v4 v6 v7 wi => ∃ k, k ≤ 4 ∧ v6 = .int .u32 (x0 / 256 ^ k : Nat) ∧ v7 = .int .i64 (k : Nat) ∧ RbInv w1 wi v4 (2 + 4 * i + k) p f) (fun _ _ v7 _ => 4 - (intOf v7).toNat)
      case atStart => exact ⟨0, by omega, by rw [Nat.pow_zero, Nat.div_one], rfl, HI.out⟩
      case round =>
        obtain ⟨k, hk, rfl, rfl, hinv⟩ := hrel
        clear HI
        have HI := Lib.hid hinv
        clear hinv
        have hz : x0 / 256 ^ k < 4294967296 := Nat.lt_of_le_of_lt (Nat.div_le_self _ _) b0
        by_cases hk4 : k < 4
        · have HZ : Hid (x0 / 256 ^ k % 256 = byteOf p f (2 + 4 * i + k)) := by show _ = _; rw [byteOf_limb hk4, HX0.out]
          have HZ2 : Hid (x0 / 256 ^ (k + 1) = x0 / 256 ^ k / 256) := by show _ = _; rw [Nat.pow_succ, Nat.div_div_eq_div_mul]
          generalize x0 / 256 ^ k = z at *
          have hown1 := HI.out.1.alloc (.cells #[.int .u8 ((z : Int) % 256)] 5)
          have hrd1 : Rd .u8 (wr.alloc (.cells #[.int .u8 ((z : Int) % 256)] 5)) (some ⟨wr.heap.size, 0, none⟩) 1 (fun _ => z % 256) := (row_one wr (z % 256)).rd0 (Nat.le_refl _)
          have hws := HI.out.2.size
          have HST : Hid (∀ v2 w5, Own .u8 5 w5 w1.heap.size v2 (2 + 4 * i + k + 1) (appF (byteOf p f) (2 + 4 * i + k) (fun _ => z % 256)) → Below w1.heap.size (wr.alloc (.cells #[.int .u8 ((z : Int) % 256)] 5)) w5 → RbInv w1 w5 v2 (2 + 4 * i + k + 1) p f) := fun v2 w5 q1 q2 =>
            RbInv.step (wr := wr) HI.out.2 q1 q2 HZ.out
          clear HI
          go_wp2_with (at_builtin; refine wpList_app rfl (.tmp 36) (.tmp 40) 40 rfl .u8 5 Tryz.underlying40 1 u8_info (by omega) w1.heap.size _ (2 + 4 * i + k) (byteOf p f) rfl hown1 (some ⟨wr.heap.size, 0, none⟩) 1 1 (fun _ => z % 256) rfl hrd1 (fun h => by cases h) (by omega) (by simp; omega) ?_; intro v2 w5 hown2 hb2 hsz2)
          have HS := Lib.hid (HST.out _ _ hown2 hb2)
          clear hown2 hb2 hsz2 hown1 hrd1
          go_wp2
          go_roundw
          case rel => exact ⟨k + 1, by omega, by rw [HZ2.out]; go_num, by go_num, HS.out⟩
          case measure => simp [intOf]; omega
        · obtain rfl : k = 4 := by omega
          clear hz
          go_wp2
          go_roundw
          case rel => exact ⟨i + 1, by omega, by go_num, HI.out⟩
          case measure => simp [intOf]; omega
    · obtain rfl : i = p := by omega
      go_wp2
      go_ret
      exact ⟨w1, i, f, H4.out, H3.out, H5.out, HB1.out, _, rfl, HI.out⟩
end Go.Proofs.YtglcififcldchaaGreatDoor

/- Contracts of the document's own reading: Read. -/
namespace Go.Proofs.YtglcififcldchaaGreatDoor
open Go.RowKit

def xq (f : Nat → Nat) (i q : Nat) : Nat := num 256 (fun j => f (2 + 4 * i + (4 - q) + j)) q
theorem xq_step {f : Nat → Nat} {i q r : Nat} (h : r + q = 3) : xq f i (q + 1) = xq f i q * 256 + f (2 + 4 * i + r) := by
  unfold xq
  rw [num_from_top, show 4 - (q + 1) = r from by omega, show 4 - q = r + 1 from by omega, Nat.add_comm, Nat.mul_comm 256]
  rfl
theorem xq_lt {f : Nat → Nat} {i q n : Nat} (hf : ∀ j, j < n → f j < 256) (hq : q ≤ 3) (hi : 2 + 4 * i + 4 ≤ n) : xq f i q < 16777216 := by
  have h1 : xq f i q < 256 ^ q := num_lt (by omega) q (fun j hj => hf _ (by omega))
  have h2 : 256 ^ q ≤ 256 ^ 3 := Nat.pow_le_pow_right (by omega) hq
  have h3 : (256 : Nat) ^ 3 = 16777216 := by decide
  omega
theorem xq_all {f : Nat → Nat} {i : Nat} : xq f i 4 = limbAt f i := num_congr 4 fun j _ => by rw [Nat.sub_self, Nat.add_zero]

def RrInv (w wr : World) (v : Value) (i : Nat) (f : Nat → Nat) : Prop := Own .u32 86 wr w.heap.size v i (limbAt f) ∧ Below w.heap.size w wr
theorem RrInv.step {w wr w2 : World} {v : Value} {i x : Nat} {f : Nat → Nat} (hb : Below w.heap.size w wr) (h : Own .u32 86 w2 w.heap.size v (i + 1) (appF (limbAt f) i (fun _ => x))) (h2 : Below w.heap.size (wr.alloc (.cells #[.int .u32 (x : Nat)] 86)) w2) (hx : x = limbAt f i) :
    RrInv w w2 v (i + 1) f :=
  ⟨h.congr fun j hj => by
    unfold appF
    split
    · rfl
    · obtain rfl : j = i := by omega
      exact hx, (hb.trans ((below_new wr _).mono hb.size)).trans h2⟩

theorem own_isNat {w : World} {base i : Nat} {v : Value} {f : Nat → Nat} (h : Own .u32 86 w base v i f) (hf : ∀ j, j < i → f j < 4294967296) (ht : Trimmed f i) : IsNat w v (num 4294967296 f i) := by
  rcases h.form with ⟨rfl, rfl⟩ | ⟨g, c, rfl, _, hc⟩
  · exact ⟨none, 0, 0, f, rfl, Nat.le_refl _, Rd.zero, hf, ht, rfl⟩
  · exact ⟨_, _, _, f, rfl, hc, h.rd_, hf, ht, rfl⟩

set_option maxHeartbeats 1000000 in
theorem rread_short (A : Option Addr) (n c : Nat) (w : World) (hn : n < 2) :
    Calls Tryz.prog 117 #[.slice A n c] w fun e w' => ReadNo w w' e := by
  go_enter Tryz.func117, Tryz.ntmps117
  go_wp2
  go_ret3
  exact ⟨rfl, Below.refl _ _⟩

set_option maxHeartbeats 2000000 in
theorem rread_long (ad : Addr) (n c : Nat) (f : Nat → Nat) (w : World) (ha : Rd .u8 w (some ad) n f) (hc : n ≤ c) (hn : n ≤ 1000000) (hf : ∀ j, j < n → f j < 256) (h2 : 2 ≤ n) :
    Calls Tryz.prog 117 #[.slice (some ad) n c] w fun e w' => (Readable f n → ReadYes w w' e f n) ∧ (¬ Readable f n → ReadNo w w' e) := by
  have hc0 := ha.at_ (j := 0) (by omega)
  have hc1 := ha.at_ (j := 1) (by omega)
  have f0 := hf 0 (by omega)
  have f1 := hf 1 (by omega)
  obtain ⟨k, hk⟩ : ∃ k, k = cntOf f := ⟨_, rfl⟩
  have hki : (f 0 : Int) + 256 * (f 1 : Int) = (k : Int) := by rw [hk]; unfold cntOf; omega
  have hk65 : k < 65536 := by rw [hk]; unfold cntOf; omega
  have HK := Lib.hid hk
  have HA := Lib.hid ha
  have HF := Lib.hid hf
  clear hk ha hf
  have hc0' : w.cell? ad = some (.int .u8 (f 0 : Nat)) := by simpa [Addr.add] using hc0
  have hc1' : w.cell? ⟨ad.block, ad.off + 1, none⟩ = some (.int .u8 (f 1 : Nat)) := hc1
  have i0 : (0 : Int) < (n : Int) := by omega
  have i1 : (1 : Int) < (n : Int) := by omega
  have i2 : 0 < n := by omega
  have i3 : 1 < n := by omega
  generalize f 0 = x0 at *
  generalize f 1 = x1 at *
  have w1 : IntKind.i64.wrap (256 * (x1 : Int)) = 256 * (x1 : Int) := IntWalk.i64_in _ (by omega)
  have w2 : IntKind.i64.wrap ((x0 : Int) + 256 * (x1 : Int)) = (k : Int) := by rw [hki]; exact IntWalk.i64_in _ (by omega)
  have w3 : IntKind.i64.wrap (x0 : Int) = (x0 : Int) := IntWalk.i64_in _ (by omega)
  have w4 : IntKind.i64.wrap (x1 : Int) = (x1 : Int) := IntWalk.i64_in _ (by omega)
  go_enter Tryz.func117, Tryz.ntmps117
  go_wp2
  go_quiet (fail)
  have HBW : Hid (Below w.heap.size w (w.drewN nq)) := Below.drewN_ (Below.refl _ _) _
  have HAW := Lib.hid (HA.out.below HBW.out)
  generalize w.drewN nq = wz at *
  clear w1 w2 w3 w4 hc0 hc1 hc0' hc1' hki f0 f1
  by_cases hgo : k ≤ 4096 ∧ 2 + 4 * k ≤ n
  · obtain ⟨hg1, hg2⟩ := hgo
    have g2 : (2 : Int) + 4 * (k : Int) ≤ (n : Int) := by omega
    have I0 : Hid (RrInv wz wz (.slice none 0 0) 0 f) := ⟨Own.nil, Below.refl _ _⟩
    go_wp2
    go_loopw [6, 7] (fun v6 v7 wr => ∃ i, i ≤ k ∧ v7 = .int .i64 (i : Nat) ∧ RrInv wz wr v6 i f) (fun _ v7 _ => k - (intOf v7).toNat)
    case atStart => exact ⟨0, Nat.zero_le _, rfl, I0.out⟩
    case round =>
      obtain ⟨i, hi, rfl, hinv⟩ := hrel
      clear I0
      have HI := Lib.hid hinv
      clear hinv
      by_cases hlt : i < k
      · go_wp2
        go_loopw [8, 9] (fun v8 v9 wi => ∃ q : Nat, q ≤ 4 ∧ v8 = .int .u32 (xq f i q : Nat) ∧ v9 = .int .i64 ((3 : Int) - (q : Int)) ∧ RrInv wz wi u6 i f) (fun _ v9 _ => (intOf v9 + 1).toNat)
        case atStart => exact ⟨0, by omega, rfl, rfl, HI.out⟩
        case round =>
          obtain ⟨q, hq, rfl, rfl, hinv⟩ := hrel
          clear HI
          have HI := Lib.hid hinv
          clear hinv
          by_cases hq4 : q < 4
          · obtain ⟨r, hr⟩ : ∃ r, r + q = 3 := ⟨3 - q, by omega⟩
            rw [show (3 : Int) - (q : Int) = (r : Int) from by omega]
            have hcell := (HAW.out.below HI.out.2).at_ (j := 2 + 4 * i + r) (by omega)
            have b1 := HF.out (2 + 4 * i + r) (by omega)
            have b2 := xq_lt HF.out (show q ≤ 3 by omega) (show 2 + 4 * i + 4 ≤ n by omega)
            have HX := Lib.hid (xq_step (f := f) (i := i) hr)
            generalize f (2 + 4 * i + r) = y at *
            generalize xq f i q = x at *
            have t0 : (0 : Int) ≤ 2 + 4 * (i : Int) + (r : Int) := by omega
            have t1 : (2 + 4 * (i : Int) + (r : Int)).toNat = 2 + 4 * i + r := by omega
            have t2 : 2 + 4 * (i : Int) + (r : Int) < (n : Int) := by omega
            go_wp2
            go_roundw
            case rel => exact ⟨q + 1, by omega, by rw [HX.out]; go_num, by first | (go_num; omega) | (congr 1; omega), HI.out⟩
            case measure => simp [intOf]; try omega
          · obtain rfl : q = 4 := by omega
            have HX : Hid (xq f i 4 = limbAt f i) := xq_all
            have hown1 := HI.out.1.alloc (.cells #[.int .u32 (xq f i 4 : Nat)] 86)
            have hrd1 : Rd .u32 (wr.alloc (.cells #[.int .u32 (xq f i 4 : Nat)] 86)) (some ⟨wr.heap.size, 0, none⟩) 1 (fun _ => xq f i 4) := (row_one wr (xq f i 4)).rd0 (Nat.le_refl _)
            have hws := HI.out.2.size
            have HST : Hid (∀ v2 w5, Own .u32 86 w5 wz.heap.size v2 (i + 1) (appF (limbAt f) i (fun _ => xq f i 4)) → Below wz.heap.size (wr.alloc (.cells #[.int .u32 (xq f i 4 : Nat)] 86)) w5 → RrInv wz w5 v2 (i + 1) f) := fun v2 w5 q1 q2 =>
              RrInv.step (wr := wr) HI.out.2 q1 q2 HX.out
            clear HI
            generalize xq f i 4 = z at *
            go_wp2_with (at_builtin; refine wpList_app rfl (.tmp 54) (.tmp 56) 22 rfl .u32 86 Tryz.underlying22 4 u32_info (by omega) wz.heap.size _ i (limbAt f) rfl hown1 (some ⟨wr.heap.size, 0, none⟩) 1 1 (fun _ => z) rfl hrd1 (fun h => by cases h) (by omega) (by simp; omega) ?_; intro v2 w5 hown2 hb2 hsz2)
            have HS := Lib.hid (HST.out _ _ hown2 hb2)
            clear hown2 hb2 hsz2 hown1 hrd1
            go_wp2
            go_roundw
            case rel => exact ⟨i + 1, by omega, by go_num, HS.out⟩
            case measure => simp [intOf]; omega
      · obtain rfl : i = k := by omega
        have w5 : IntKind.i64.wrap (4 * (i : Int)) = 4 * (i : Int) := IntWalk.i64_in _ (by omega)
        have w6 : IntKind.i64.wrap (2 + 4 * (i : Int)) = 2 + 4 * (i : Int) := IntWalk.i64_in _ (by omega)
        have hbl := below_trans HBW.out HI.out.2
        by_cases hz : 0 < i ∧ limbAt f (i - 1) = 0
        · have HNR : Hid (¬ Readable f n) := fun h => h.2.2.2 (by rw [← HK.out]; exact hz.1) (by rw [← HK.out]; exact hz.2)
          have HBL := Lib.hid hbl
          obtain ⟨hi0, hz0⟩ := hz
          rcases HI.out.1.form with ⟨_, h0⟩ | ⟨g, c', rfl, _, hc'⟩
          · omega
          · have hcell := HI.out.1.rd_.at_ (j := i - 1) (by omega)
            rw [hz0, add_mk, Nat.zero_add] at hcell
            have hii : ((i : Int) - 1).toNat = i - 1 := by omega
            clear HI hbl
            go_wp2
            all_goals
              go_ret3
              exact ⟨fun h => absurd h HNR.out, fun _ => ⟨rfl, HBL.out⟩⟩
        · have HRD : Hid (Readable f n) := ⟨h2, by rw [← HK.out]; exact hg1, by rw [← HK.out]; exact hg2, fun h0 h1 => hz ⟨by rw [HK.out]; exact h0, by rw [HK.out]; exact h1⟩⟩
          have IV : Hid (IsNat wr u6 (num 4294967296 (limbAt f) i)) := own_isNat HI.out.1 (fun j hj => limbAt_lt HF.out (by omega)) (by
            rcases Nat.eq_zero_or_pos i with h0 | h0
            · exact .inl h0
            · exact .inr fun h1 => hz ⟨h0, h1⟩)
          have HBL := Lib.hid hbl
          obtain ⟨B, hB1, hB2⟩ := rest_at ad n c (2 + 4 * i) f wr (HAW.out.below HI.out.2) hc hg2
          have RB2 := Lib.hid hB2
          obtain ⟨m, hm⟩ : ∃ m, m = n - (2 + 4 * i) := ⟨_, rfl⟩
          obtain ⟨d, hd⟩ : ∃ d, d = c - (2 + 4 * i) := ⟨_, rfl⟩
          rw [← hm, ← hd] at hB1
          rw [← hm] at RB2
          have HM := Lib.hid hm
          have hmd : m ≤ d := by omega
          have HSL := Lib.hid hB1
          have hguard : i = 0 ∨ (0 < i ∧ ∃ z : Nat, 0 < z ∧ ∃ g c', u6 = .slice (some ⟨g, 0, none⟩) i c' ∧ wr.cell? ⟨g, i - 1, none⟩ = some (.int .u32 (z : Nat))) := by
            rcases Nat.eq_zero_or_pos i with h0 | h0
            · exact .inl h0
            · refine .inr ⟨h0, limbAt f (i - 1), ?_, ?_⟩
              · rcases Nat.eq_zero_or_pos (limbAt f (i - 1)) with h1 | h1
                · exact absurd ⟨h0, h1⟩ hz
                · exact h1
              · have HO := HI.out.1
                rcases HO.form with ⟨_, h1⟩ | ⟨g, c', rfl, _, hc'⟩
                · omega
                · exact ⟨g, c', rfl, by have := HO.rd_.at_ (j := i - 1) (by omega); rwa [add_mk, Nat.zero_add] at this⟩
          clear hz HI hbl hB1 hB2 hm hd
          clear w5 w6
          rcases hguard with rfl | ⟨hi0, z, hz0, g, c', rfl, hcell⟩
          · have hsl := fun wq => HSL.out wq 2 (by simp)
            go_wp2
            go_quiet (fail)
            go_wp2
            go_ret3
            exact ⟨fun _ => ⟨_, B, d, by rw [← HK.out, ← HM.out]; rfl, by rw [← HK.out]; exact (IV.out.below (Below.drewN_ (Below.refl _ _) _)), by rw [← HK.out, ← HM.out]; exact hmd, by rw [← HK.out, ← HM.out]; exact RB2.out.below (Below.drewN_ (Below.refl _ _) _), below_trans HBL.out (Below.drewN_ (Below.refl _ _) _)⟩, fun h => absurd HRD.out h⟩
          · have hgz : ((z : Int) == 0) = false := by rw [beq_eq_false_iff_ne]; omega
            have hii : ((i : Int) - 1).toNat = i - 1 := by omega
            have hsl := fun wq => HSL.out wq (2 + 4 * (i : Int)) (by omega)
            have w5 : IntKind.i64.wrap (4 * (i : Int)) = 4 * (i : Int) := IntWalk.i64_in _ (by omega)
            have w6 : IntKind.i64.wrap (2 + 4 * (i : Int)) = 2 + 4 * (i : Int) := IntWalk.i64_in _ (by omega)
            go_wp2
            go_quiet (fail)
            go_wp2
            go_ret3
            exact ⟨fun _ => ⟨_, B, d, by rw [← HK.out, ← HM.out]; rfl, by rw [← HK.out]; exact (IV.out.below (Below.drewN_ (Below.refl _ _) _)), by rw [← HK.out, ← HM.out]; exact hmd, by rw [← HK.out, ← HM.out]; exact RB2.out.below (Below.drewN_ (Below.refl _ _) _), below_trans HBL.out (Below.drewN_ (Below.refl _ _) _)⟩, fun h => absurd HRD.out h⟩
  · have HNR : Hid (¬ Readable f n) := fun h => hgo (by have h1 := h.2.1; have h2 := h.2.2.1; rw [← HK.out] at h1 h2; exact ⟨h1, h2⟩)
    by_cases hg1 : k ≤ 4096
    · have hg2 : n < 2 + 4 * k := by omega
      have g2 : (n : Int) < (2 : Int) + 4 * (k : Int) := by omega
      clear hgo
      go_wp2
      all_goals
        go_ret3
        exact ⟨fun h => absurd h HNR.out, fun _ => ⟨rfl, HBW.out⟩⟩
    · have hg3 : 4096 < k := by omega
      clear hgo
      go_wp2
      all_goals
        go_ret3
        exact ⟨fun h => absurd h HNR.out, fun _ => ⟨rfl, HBW.out⟩⟩
end Go.Proofs.YtglcififcldchaaGreatDoor

/- The document's own Trim; a digit put behind a text. -/
namespace Go.Proofs.YtglcififcldchaaGreatDoor
open Go.RowKit

/-- A byte as a string. -/
def oneB (k : Nat) : ByteArray := ⟨#[UInt8.ofNat (48 + k)]⟩
theorem conv_one (k : Nat) (w : World) : (convert 40 9 (.slice (some ⟨w.heap.size, 0, none⟩) 1 1)).run Tryz.prog (w.alloc (.cells #[.int .u8 (48 + (k : Int))] 5)) = .ok (.string (oneB k)) (w.alloc (.cells #[.int .u8 (48 + (k : Int))] 5)) := by
  have h : Rd .u8 (w.alloc (.cells #[.int .u8 (48 + (k : Int))] 5)) (some ⟨w.heap.size, 0, none⟩) 1 (fun _ => 48 + k) := (row_one w (48 + k)).rd0 (Nat.le_refl _)
  exact run_conv_rd (P := Tryz.prog) _ 40 5 under32 under5 w.heap.size 0 1 1 (fun _ => 48 + k) h 9 under9

end Go.Proofs.YtglcififcldchaaGreatDoor

/- Contracts of the document's own writing: Text. -/
namespace Go.Proofs.YtglcififcldchaaGreatDoor
open Go.RowKit

theorem isDig_cap {w : World} {v : Value} {N : Nat} (h : IsDig w v N) : ∃ A n c, v = .slice A n c ∧ (n = 0 ↔ N = 0) ∧ IsDig w (.slice A n c) N := by
  obtain ⟨A, n, c, f, rfl, a1, a2, a3, a4, a5, a6⟩ := h
  refine ⟨A, n, c, rfl, ⟨fun h => ?_, fun h => ?_⟩, A, n, c, f, rfl, a1, a2, a3, a4, a5, a6⟩
  · subst h; rw [← a6]; rfl
  · rcases Nat.eq_zero_or_pos n with h0 | h0
    · exact h0
    · have := a5.pos (B := 256) (by omega) h0; omega
/-- The lowest digit by at. -/
theorem rat_low {w : World} {v : Value} {N : Nat} (h : IsDig w v N) (hN : N < 256) : Calls Tryz.prog 120 #[v, .int .i64 0] w fun e w' => e = .returned (.int .i64 (N : Nat)) ∧ w' = w := by
  obtain ⟨A, n, c, f, rfl, a1, a2, a3, a4, a5, a6⟩ := h
  have hn : n ≤ 1 := a5.len (B := 256) (by omega) (by rw [a6, Nat.pow_one]; exact hN)
  have := rat_any A n c 0 f w a3
  have e : (if 0 < n then f 0 else 0) = N := by
    have : n = 0 ∨ n = 1 := by omega
    rcases this with rfl | rfl
    · rw [← a6]; rfl
    · rw [← a6]; simp [num]
  rw [e] at this
  exact this
theorem dig_ten (w : World) : IsDig (w.alloc (.cells #[.int .i64 10] 3)) (.slice (some ⟨w.heap.size, 0, none⟩) 1 1) 10 :=
  ⟨_, 1, 1, fun _ => 10, rfl, Nat.le_refl _, fun h => (by cases h), (row_one w 10).rd0 (Nat.le_refl _), fun j _ => (by show (10 : Nat) < 256; omega), .inr (by show (10 : Nat) ≠ 0; omega), by simp [num]⟩

/-- The text so far: what is still to come, put ahead of it, is the number's. -/
def TailInv (N X : Nat) (s : ByteArray) : Prop := dec N = dec X ++ s.data.toList
theorem TailInv.step {N X : Nat} {s : ByteArray} (h : TailInv N X s) (hX : X ≠ 0) : TailInv N (X / 10) ⟨#[UInt8.ofNat (48 + X % 10)] ++ s.data⟩ := by
  unfold TailInv at *
  rw [h, dec_pos hX, List.append_assoc]
  simp
theorem TailInv.done {N : Nat} {s : ByteArray} (h : TailInv N 0 s) (hN : N ≠ 0) : s = decS N := by
  unfold TailInv at h
  rw [dec_zero, List.nil_append] at h
  unfold decS decText
  rw [if_neg hN, h]
theorem TailInv.size {N X q : Nat} {s : ByteArray} (h : TailInv N X s) (hN : 0 < N) (hq : N < 10 ^ q) (h4 : q ≤ 40000) : s.size ≤ 40000 := by
  have h1 := (decS_num hN hq h4).1.2.1
  unfold TailInv at h
  have e : (decS N).size = (dec N).length := by unfold decS decText; rw [if_neg (by omega)]; rfl
  have e2 : s.size = s.data.toList.length := Array.length_toList.symm
  rw [e, h, List.length_append] at h1
  omega

set_option maxHeartbeats 2000000 in
theorem rtext_any {k N : Nat} {w : World} {v : Value} (h1 : Lim k w v N) (hk : k ≤ 1000) : Calls Tryz.prog 86 #[v] w fun e w' => e = .returned (.string (decS N)) ∧ Below w.heap.size w w' := by
  have hN := h1.lt
  have hN10 : N < 10 ^ (10 * k) := Nat.lt_of_lt_of_le hN (by rw [Nat.pow_mul]; exact Nat.pow_le_pow_left (by decide) _)
  rw [pow_limb] at hN
  have HN := Lib.hid hN
  have HN10 := Lib.hid hN10
  have D1 := Lib.hid (lim_digits h1 (by omega))
  clear h1 hN hN10
  go_enter Tryz.func86, Tryz.ntmps86
  go_wp2_with fail
  refine D1.out.mono ?_
  rintro e w1 ⟨d1, rfl, hd1, hb1⟩
  obtain ⟨A, n, c, rfl, hl, hd⟩ := isDig_cap hd1
  have HB1 := Lib.hid hb1
  have HD := Lib.hid hd
  clear hd hd1 hb1 D1
  rcases Nat.eq_zero_or_pos N with h0 | h0
  · obtain rfl := hl.2 h0
    subst h0
    go_wp2
    go_ret
    exact ⟨by rw [decS_zero]; rfl, HB1.out⟩
  · have hn0 : n ≠ 0 := fun h => by have := hl.1 h; omega
    have hg1 : ((n : Int) == 0) = false := by rw [beq_eq_false_iff_ne]; omega
    have H0 := Lib.hid h0
    have I0 : Hid (TailInv N N ⟨#[]⟩) := by show dec N = dec N ++ _; simp
    clear hl hn0 h0
    go_wp2
    go_loopw [3, 4] (fun v3 v4 wr => ∃ X s, IsDig wr v3 X ∧ v4 = .string s ∧ TailInv N X s ∧ X ≤ N ∧ Below w.heap.size w wr) (fun v3 _ wr => valOf wr v3)
    case atStart => exact ⟨N, _, HD.out, rfl, I0.out, Nat.le_refl _, HB1.out⟩
    case round =>
      obtain ⟨X, s, x1, rfl, x3, x4, x5⟩ := hrel
      clear HD I0
      obtain ⟨A2, n2, c2, rfl, hl, hd⟩ := isDig_cap x1
      have hv := Lib.hid (valOf_eq hd)
      have HB := Lib.hid x5
      have HT := Lib.hid x3
      have hsz := Lib.hid (x3.size H0.out HN10.out (by omega))
      by_cases hX : X = 0
      · obtain rfl := hl.2 hX
        subst hX
        clear x1 x3 x5 hl hd
        go_wp2
        go_ret
        exact ⟨by rw [HT.out.done (Nat.ne_of_gt H0.out)]; rfl, HB.out⟩
      · have hn0 : 0 < n2 := by
          rcases Nat.eq_zero_or_pos n2 with h | h
          · exact absurd (hl.1 h) hX
          · exact h
        have HQ := Lib.hid (dig_quo (k := 4 * k) (m := 1) (hd.below (below_new wr (.cells #[.int .i64 10] 3))) (dig_ten wr) (Nat.lt_of_le_of_lt x4 HN.out) (by omega) (by omega) (by omega) (by omega))
        have HX := Lib.hid hX
        have hr10 : X % 10 < 10 := Nat.mod_lt _ (by omega)
        have HST := Lib.hid (x3.step hX)
        have hlt : X / 10 < X := Nat.div_lt_self (by omega) (by omega)
        clear x1 x3 x5 hl hd hX
        go_wp2_with fail
        refine HQ.out.mono ?_
        rintro e w3 ⟨vq, vr, rfl, hq, hr, hb3⟩
        generalize X % 10 = r at *
        generalize hXq : X / 10 = Xq at *
        have HB3 := Lib.hid (HB.out.trans (((below_new wr _).trans (hb3.mono (by simp))).mono HB.out.size))
        have HQ3 := Lib.hid hq
        have RL := Lib.hid (rat_low hr (by omega))
        have hconv := conv_one r
        have hcat := fun wq => run_string_add (P := Tryz.prog) wq (oneB r) s (by show 1 ≤ _; omega) (by have := hsz.out; omega)
        clear hq hr hb3 HQ
        go_wp2_with fail
        refine RL.out.mono ?_
        rintro e w4 ⟨rfl, rfl⟩
        have HT4 : Hid (TailInv N Xq (oneB r ++ s)) := by
          show TailInv N Xq (oneB r ++ s)
          have := HST.out
          have e : (oneB r ++ s) = ⟨#[UInt8.ofNat (48 + r)] ++ s.data⟩ := by apply ByteArray.ext; simp [oneB]
          rw [e]
          exact this
        have HQ5 := Lib.hid (HQ3.out.below (below_new w4 (.cells #[.int .u8 (48 + (r : Int))] 5)))
        have HB5 := Lib.hid (HB3.out.trans ((below_new w4 (.cells #[.int .u8 (48 + (r : Int))] 5)).mono HB3.out.size))
        go_wp2
        go_roundw
        case rel => exact ⟨Xq, _, HQ5.out, rfl, HT4.out, by omega, HB5.out⟩
        case measure =>
          rw [hv.out, valOf_eq HQ5.out]
          exact hlt
end Go.Proofs.YtglcififcldchaaGreatDoor
