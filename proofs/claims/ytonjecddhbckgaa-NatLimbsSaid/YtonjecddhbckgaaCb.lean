/- Contracts: addTo. -/
import Derived.Test.YtonjecddhbckgaaCa
import Derived.Test.YtonjecddhbckgaaLaw
import Derived.Deep.RegionWith
import Derived.StillTailTactics
namespace Go.Proofs.Ytonjecddhbckgaa
open Go.RowKit

set_option maxHeartbeats 400000 in
theorem add32_any (x y c : Nat) (hx : x < 4294967296) (hy : y < 4294967296) (hc : c < 4294967296) (w : World) :
    Calls Try.prog 62 #[.int .u32 x, .int .u32 y, .int .u32 c] w fun e w' => e = .returned (.tuple #[.int .u32 ((x + y + c) % 4294967296 : Nat), .int .u32 ((x + y + c) / 4294967296 : Nat)]) ∧ w' = w := by
  go_enter Try.func62, Try.ntmps62
  go_wp2
  go_ret2
  exact ⟨rfl, rfl⟩

/-- After k rounds of addTo's first loop. -/
def AddInv (w wr : World) (g o sz k cr : Nat) (f h f' : Nat → Nat) : Prop :=
  cr ≤ 1 ∧ Row .u32 41 wr g sz f' ∧ Wr g w wr ∧ (∀ j, ¬ (o ≤ j ∧ j < o + k) → f' j = f j) ∧ (∀ j, j < k → f' (o + j) < 4294967296) ∧
    num 4294967296 (fun j => f' (o + j)) k + cr * 4294967296 ^ k = num 4294967296 (fun j => f (o + j)) k + num 4294967296 h k

theorem AddInv.step {w wr : World} {g o sz k cr : Nat} {f h f' : Nat → Nat} (hi : AddInv w wr g o sz k cr f h f') (hk : o + k < sz) (hf : f (o + k) < 4294967296) (hh : h k < 4294967296) :
    AddInv w (wr.setCell ⟨g, o + k, none⟩ (.int .u32 ((f' (o + k) + h k + cr) % 4294967296 : Nat))) g o sz (k + 1) ((f' (o + k) + h k + cr) / 4294967296) f h (upd f' (o + k) ((f' (o + k) + h k + cr) % 4294967296)) := by
  obtain ⟨h1, h2, h3, h4, h5, h6⟩ := hi
  have e0 : f' (o + k) = f (o + k) := h4 _ (by omega)
  refine ⟨by omega, h2.set_ _ _, h3.setCell _ _, fun j hj => ?_, fun j hj => ?_, ?_⟩
  · rw [upd_ne _ _ _ (by omega)]; exact h4 j (by omega)
  · by_cases hjk : j = k
    · subst hjk; rw [upd_same]; exact Nat.mod_lt _ (by omega)
    · rw [upd_ne _ _ _ (by omega)]; exact h5 j (by omega)
  · rw [num_succ, num_succ, num_succ, upd_same, num_congr (f' := fun j => f' (o + j)) k (fun j hj => upd_ne _ _ _ (by omega)), e0]
    rw [e0] at *
    have hd := Nat.div_add_mod (f (o + k) + h k + cr) 4294967296
    generalize (f (o + k) + h k + cr) % 4294967296 = r at *
    generalize (f (o + k) + h k + cr) / 4294967296 = q at *
    rw [Nat.pow_succ]
    generalize 4294967296 ^ k = T at *
    have e1 : q * (T * 4294967296) = (4294967296 * q) * T := by rw [Nat.mul_comm (4294967296) q, Nat.mul_assoc, Nat.mul_comm T]
    rw [e1]
    have e2 : 4294967296 * q = f (o + k) + h k + cr - r := by omega
    have e3 : r * T + (4294967296 * q) * T = (f (o + k) + h k + cr) * T := by rw [← Nat.add_mul]; congr 1; omega
    rw [Nat.add_mul, Nat.add_mul] at e3
    omega

theorem AddInv.stepD {w wr : World} {g o sz k cr : Nat} {f h f' : Nat → Nat} (hi : AddInv w wr g o sz k cr f h f') (hk : o + k < sz) (hf : f (o + k) < 4294967296) (hh : h k < 4294967296)
    (x : Int) (hx : x = ((f' (o + k) + h k + cr) % 4294967296 : Nat)) :
    AddInv w (wr.setCell ⟨g, o + k, none⟩ (.int .u32 x)).drew g o sz (k + 1) ((f' (o + k) + h k + cr) / 4294967296) f h (upd f' (o + k) ((f' (o + k) + h k + cr) % 4294967296)) := by
  subst hx
  obtain ⟨h1, h2, h3, h4⟩ := hi.step hk hf hh
  exact ⟨h1, h2.drew, h3.drew, h4⟩

theorem AddInv.ext {w wr : World} {g o sz k n : Nat} {f h f' : Nat → Nat} (hi : AddInv w wr g o sz k 0 f h f') (hk : k ≤ n) (hf : ∀ j, j < n → f (o + j) < 4294967296) (hh : ∀ j, k ≤ j → j < n → h j = 0) :
    AddInv w wr g o sz n 0 f h f' := by
  induction n with
  | zero => obtain rfl : k = 0 := by omega
            exact hi
  | succ n ih =>
    by_cases hkn : k = n + 1
    · subst hkn; exact hi
    · obtain ⟨h1, h2, h3, h4, h5, h6⟩ := ih (by omega) (fun j hj => hf j (by omega)) (fun j a b => hh j a (by omega))
      have e0 : f' (o + n) = f (o + n) := by
        obtain ⟨_, _, _, h4, _⟩ := hi
        exact h4 _ (by omega)
      refine ⟨h1, h2, h3, fun j hj => h4 j (by omega), fun j hj => ?_, ?_⟩
      · by_cases hjn : j = n
        · subst hjn; rw [e0]; exact hf j (by omega)
        · exact h5 j (by omega)
      · rw [num_succ, num_succ, num_succ, hh n (by omega) (by omega), e0]
        omega

theorem AddInv.congr {w wr : World} {g o sz k cr : Nat} {f h h' f' : Nat → Nat} (hi : AddInv w wr g o sz k cr f h f') (he : ∀ j, j < k → h j = h' j) : AddInv w wr g o sz k cr f h' f' := by
  obtain ⟨h1, h2, h3, h4, h5, h6⟩ := hi
  exact ⟨h1, h2, h3, h4, h5, by rw [h6, num_congr k he]⟩

/-- What addTo leaves. -/
def AddPost (w w' : World) (e : Ending) (g o n m sz : Nat) (f h : Nat → Nat) : Prop :=
  ∃ cr f', e = .returned (.int .u32 (cr : Nat)) ∧ AddInv w w' g o sz n cr f (fun j => if j < m then h j else 0) f'

set_option maxHeartbeats 1000000 in
theorem addTo_any (g o n c : Nat) (B : Option Addr) (m d sz : Nat) (f h : Nat → Nat) (w : World) (hrow : Row .u32 41 w g sz f) (hsz : o + n ≤ sz) (hc : n ≤ c) (hmn : m ≤ n) (hd : m ≤ d)
    (hr : Rd .u32 w B m h) (hoff : 0 < m → Off B g) (hf : ∀ j, j < n → f (o + j) < 4294967296) (hh : ∀ j, j < m → h j < 4294967296) (hn : n ≤ 4611686018427387904) :
    Calls Try.prog 44 #[.slice (some ⟨g, o, none⟩) n c, .slice B m d] w fun e w' => AddPost w w' e g o n m sz f h := by
  go_enter Try.func44, Try.ntmps44
  go_wp2
  go_loopw [5, 10] (fun v5 v10 wr => ∃ k cr f', k ≤ m ∧ v5 = .int .u32 (cr : Nat) ∧ v10 = .int .i64 (k : Nat) ∧ AddInv w wr g o sz k cr f h f') (fun _ v10 _ => m - (intOf v10).toNat)
  case atStart => exact ⟨0, 0, f, Nat.zero_le _, rfl, rfl, by omega, hrow, Wr.refl, fun _ _ => rfl, fun _ hj => absurd hj (by omega), by simp [num]⟩
  case round =>
    obtain ⟨k, cr, f', hk, rfl, rfl, hinv⟩ := hrel
    have HH := Lib.hid hh
    have HF := Lib.hid hf
    have HR := Lib.hid hr
    have HO := Lib.hid hoff
    clear hh hf hr hoff hrow
    by_cases hlt : k < m
    · have hinv' := hinv
      obtain ⟨hcr, hrow', hwr, hsame, hbd, hnum⟩ := hinv'
      obtain ⟨ad, rfl, hcell⟩ := (HR.out.wr (HO.out (by omega)) hwr) k hlt
      have hcell2 := hrow'.cell (j := o + k) (by omega)
      have hfz := hrow'.frozen (o + k)
      have b0 : f (o + k) < 4294967296 := HF.out k (by omega)
      have b1 : f' (o + k) < 4294967296 := by rw [hsame (o + k) (by omega)]; exact b0
      have b2 : h k < 4294967296 := HH.out k hlt
      have HS := Lib.hid hsame
      have HB := Lib.hid hbd
      have HN := Lib.hid hnum
      clear hsame hbd hnum
      go_wp2
      go_region_with (go_at_call 62; refine (add32_any _ _ _ b1 b2 (by omega) _).mono ?_; rintro e w' ⟨rfl, rfl⟩)
      all_goals
        go_wp2
        go_roundw
        case rel => exact ⟨k + 1, _, _, by omega, rfl, by go_num, hinv.stepD (by omega) b0 b2 _ rfl⟩
        case measure => simp [intOf]; omega
    · obtain rfl : k = m := by omega
      have hcr : cr ≤ 1 := hinv.1
      have hinv2 : AddInv w wr g o sz k cr f (fun j => if j < k then h j else 0) f' := hinv.congr fun j hj => (if_pos hj).symm
      clear hinv
      go_wp2
      go_loopw [5, 7] (fun v5 v7 wr => ∃ i cr f', k ≤ i ∧ i ≤ n ∧ v5 = .int .u32 (cr : Nat) ∧ v7 = .int .i64 (i : Nat) ∧ AddInv w wr g o sz i cr f (fun j => if j < k then h j else 0) f') (fun _ v7 _ => n - (intOf v7).toNat)
      case atStart => exact ⟨k, cr, f', Nat.le_refl _, hmn, rfl, rfl, hinv2⟩
      case round =>
        clear hinv2 hcr
        obtain ⟨i, cr, f', hki, hin, rfl, rfl, hinv⟩ := hrel
        by_cases hin' : i < n
        · by_cases hc0 : cr = 0
          · subst hc0
            go_wp2
            go_ret
            exact ⟨0, f', rfl, hinv.ext hin (fun j hj => HF.out j hj) (fun j a _ => if_neg (by omega))⟩
          · have hg : ((cr : Int) != 0) = true := by rw [bne_iff_ne]; omega
            have hcr : cr ≤ 1 := hinv.1
            have hsame := hinv.2.2.2.1
            have hcell2 := hinv.2.1.cell (j := o + i) (by omega)
            have hfz := hinv.2.1.frozen (o + i)
            have b0 : f (o + i) < 4294967296 := HF.out i (by omega)
            have b1 : f' (o + i) < 4294967296 := by rw [hsame (o + i) (by omega)]; exact b0
            clear hsame
            go_wp2_with (go_at_call 62; refine (add32_any _ 0 _ b1 (by omega) (by omega) _).mono ?_; rintro e w' ⟨rfl, rfl⟩)
            go_roundw
            case rel => exact ⟨i + 1, _, _, by omega, by omega, rfl, by go_num, by
              have := hinv.step (by omega) b0 (by rw [if_neg (by omega)]; omega)
              rw [if_neg (by omega)] at this
              exact this⟩
            case measure => simp [intOf]; omega
        · obtain rfl : i = n := by omega
          go_wp2
          go_ret
          exact ⟨cr, f', rfl, hinv⟩
end Go.Proofs.Ytonjecddhbckgaa
