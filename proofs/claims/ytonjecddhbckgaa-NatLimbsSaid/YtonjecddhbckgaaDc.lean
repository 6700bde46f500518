/- Contracts: shiftDown. -/
import Derived.Test.YtonjecddhbckgaaDb
import Derived.Deep.RegionWith
namespace Go.Proofs.Ytonjecddhbckgaa
open Go.RowKit

/-- A limb shifted down. -/
def sd (f : Nat → Nat) (n s j : Nat) : Nat := (limbOf f n j + limbOf f n (j + 1) * 4294967296) / 2 ^ s % 4294967296
def DownInv (w wr : World) (g n k s : Nat) (f F : Nat → Nat) : Prop :=
  Row .u32 41 wr g n F ∧ Wr g w wr ∧ (∀ j, j < k → F j = sd f n s j) ∧ (∀ j, k ≤ j → F j = f j)

theorem DownInv.step {w wr : World} {g n k s : Nat} {f F : Nat → Nat} (hi : DownInv w wr g n k s f F) (x : Int) (hx : x = (sd f n s k : Nat)) :
    DownInv w (wr.setCell ⟨g, k, none⟩ (.int .u32 x)).drew g n (k + 1) s f (upd F k (sd f n s k)) := by
  subst hx
  obtain ⟨h1, h2, h3, h4⟩ := hi
  refine ⟨(h1.set_ _ _).drew, (h2.setCell _ _).drew, fun j hj => ?_, fun j hj => ?_⟩
  · by_cases hjk : j = k
    · subst hjk; rw [upd_same]
    · rw [upd_ne _ _ _ hjk]; exact h3 j (by omega)
  · rw [upd_ne _ _ _ (by omega)]; exact h4 j (by omega)

set_option maxHeartbeats 1000000 in
theorem shiftDown_any (g n c s : Nat) (f : Nat → Nat) (w : World) (hrow : Row .u32 41 w g n f) (hs : s < 32) (hn : n ≤ 8796093022208) (hf : ∀ j, j < n → f j < 4294967296) :
    Calls Try.prog 67 #[.slice (some ⟨g, 0, none⟩) n c, .int .i64 (s : Nat)] w fun e w' => ∃ F, e = .returned (.tuple #[]) ∧ DownInv w w' g n n s f F := by
  have HF := Lib.hid hf
  clear hf
  go_enter Try.func67, Try.ntmps67
  go_wp2
  go_loopw [7] (fun v7 wr => ∃ k F, k ≤ n ∧ v7 = .int .i64 (k : Nat) ∧ DownInv w wr g n k s f F) (fun v7 _ => n - (intOf v7).toNat)
  case atStart => exact ⟨0, f, Nat.zero_le _, rfl, hrow, Wr.refl, fun _ hj => absurd hj (by omega), fun _ _ => rfl⟩
  case round =>
    obtain ⟨k, F, hk, rfl, hinv⟩ := hrel
    clear hrow
    by_cases hlt : k < n
    · have hcell := hinv.1.cell (j := k) hlt
      have hfz := hinv.1.frozen k
      have b0 : F k < 4294967296 := by rw [hinv.2.2.2 k (Nat.le_refl _)]; exact HF.out k hlt
      have e0 : F k = limbOf f n k := by rw [hinv.2.2.2 k (Nat.le_refl _)]; unfold limbOf; rw [if_pos hlt]
      have e1 : limbOf F n (k + 1) = limbOf f n (k + 1) := by
        unfold limbOf; split
        · exact hinv.2.2.2 _ (by omega)
        · rfl
      have hfb : ∀ j, j < n → F j < 4294967296 ∨ j < k := fun j hj => by
        by_cases h : j < k
        · exact .inr h
        · left; rw [hinv.2.2.2 j (by omega)]; exact HF.out j hj
      have hFl : ∀ j, j < n → F j < 4294967296 := fun j hj => by
        by_cases h : j < k
        · rw [hinv.2.2.1 j h]; exact Nat.mod_lt _ (by omega)
        · rw [hinv.2.2.2 j (by omega)]; exact HF.out j hj
      have h1 := limbOf_lt hFl (k + 1)
      have hrd := hinv.1.rd0 (Nat.le_refl n)
      have DL : Hid (Calls Try.prog 63 #[.slice (some ⟨g, 0, none⟩) n c, .int .i64 ((k : Int) + 1)] wr.drew fun e w' => e = .returned (.int .u64 (limbOf F n (k + 1) : Nat)) ∧ w' = wr.drew) :=
        limb_any _ n c (k + 1) F wr.drew hrd.drew hFl
      have hor := or_high32 (F k) (limbOf F n (k + 1)) b0 h1
      obtain ⟨y, hy⟩ : ∃ y, y = limbOf F n (k + 1) := ⟨_, rfl⟩
      rw [← hy] at DL hor h1 e1
      obtain ⟨Z, hZ⟩ : ∃ Z, Z = F k + y * 4294967296 := ⟨_, rfl⟩
      rw [← hZ] at hor
      have hZe : Z / 2 ^ s % 4294967296 = sd f n s k := by rw [hZ, e0, e1]; rfl
      obtain ⟨t, ht⟩ : ∃ t, t = sd f n s k := ⟨_, rfl⟩
      have HS := Lib.hid (hinv.step (t : Int) (by rw [ht]))
      have hwF : IntKind.u64.wrap (F k : Int) = (F k : Int) := IntWalk.u64_in _ (by omega)
      have hwy : IntKind.u64.wrap ((y : Int) * 4294967296) = (y : Int) * 4294967296 := IntWalk.u64_in _ (by omega)
      have hwz : IntKind.u32.wrap ((Z : Int) / 2 ^ s) = (t : Int) := by
        rw [ht, ← hZe, IntKind.wrap_u32, show ((2 : Int) ^ s) = ((2 ^ s : Nat) : Int) from by rw [Int.natCast_pow]; rfl]
        rfl
      have hi0 : IntKind.i64.wrap ((k : Int) + 1) = (k : Int) + 1 := IntWalk.i64_in _ (by omega)
      clear hinv hfb hFl hrd hy e0 e1 ht hZe hZ
      go_wp2
      go_region_with (go_at_call 63; refine DL.out.mono ?_; rintro e w2 ⟨rfl, hw⟩; subst w2)
      all_goals
        go_wp2
        go_roundw
        case rel => exact ⟨k + 1, _, by omega, by go_num, HS.out⟩
        case measure => simp [intOf]; omega
    · obtain rfl : k = n := by omega
      go_wp2
      go_end0
      exact ⟨F, rfl, hinv⟩
end Go.Proofs.Ytonjecddhbckgaa
