/- Contracts: Add. -/
import Derived.Test.YtonjecddhbckgaaCb
import Derived.Test.YtonjecddhbckgaaCc
namespace Go.Proofs.Ytonjecddhbckgaa
open Go.RowKit

/-- What Add's last steps come to. -/
theorem add_end {w w1 w2 w3 : World} {n m : Nat} {f h : Nat → Nat} (hf : ∀ j, j < n → f j < 4294967296) (hm : m ≤ n)
    (hb1 : Below w.heap.size w w1) (hwr2 : Wr w.heap.size w1 w2) {cr : Nat} {f1 : Nat → Nat}
    (hi : AddInv w2 w3 w.heap.size 0 (n + 1) n cr (splF (fun _ => 0) 0 n f) (fun j => if j < m then h j else 0) f1) :
    let W := w3.setCell ⟨w.heap.size, n, none⟩ (.int .u32 (cr : Nat))
    Rd .u32 W (some ⟨w.heap.size, 0, none⟩) (n + 1) (upd f1 n cr) ∧ IsNat W (.slice (some ⟨w.heap.size, 0, none⟩) (tlen (upd f1 n cr) (n + 1)) (n + 1)) (num 4294967296 f n + num 4294967296 h m) ∧ Below w.heap.size w W := by
  obtain ⟨hcr, hrow3, hwr3, hsame, hbd, hnum⟩ := hi
  have hrow := hrow3.set_ n cr
  refine ⟨hrow.rd0 (Nat.le_refl _), isNat_row hrow (Nat.le_refl _) (Nat.le_refl _) (fun j hj => ?_) ?_, ?_⟩
  · by_cases hjn : j = n
    · subst hjn; rw [upd_same]; omega
    · rw [upd_ne _ _ _ hjn]; have := hbd j (by omega); rwa [Nat.zero_add] at this
  · rw [num_succ, upd_same, num_upd _ _ (Nat.le_refl _)]
    rw [num_pad n hm] at hnum
    have e1 : num 4294967296 (fun j => f1 (0 + j)) n = num 4294967296 f1 n := num_congr n fun j _ => by rw [Nat.zero_add]
    have e2 : num 4294967296 (fun j => splF (fun _ => 0) 0 n f (0 + j)) n = num 4294967296 f n := num_congr n fun j hj => by
      simp only [splF, Nat.zero_add, Nat.sub_zero]; rw [if_pos ⟨Nat.zero_le _, hj⟩]
    rw [e1, e2] at hnum
    exact hnum
  · exact (hwr3.setCell n _).below (hwr2.below hb1 hb1.size (Nat.le_refl _)) (by have := hwr2.size; have := hb1.size; omega) (Nat.le_refl _)

set_option maxHeartbeats 1000000 in
theorem add_ge (A : Option Addr) (n c : Nat) (f : Nat → Nat) (B : Option Addr) (m d : Nat) (h : Nat → Nat) (w : World) (ha : Rd .u32 w A n f) (hc : n ≤ c) (hn : n ≤ 17592186044415) (hf : ∀ j, j < n → f j < 4294967296)
    (hb : Rd .u32 w B m h) (hd : m ≤ d) (hm : m ≤ 17592186044415) (hh : ∀ j, j < m → h j < 4294967296) (hle : tlen h m ≤ tlen f n) :
    Calls Try.prog 20 #[.slice A n c, .slice B m d] w fun e w' => NatPost w w' e (num 4294967296 f n + num 4294967296 h m) := by
  have ht := tlen_le (f := f) n
  have hu := tlen_le (f := h) m
  have HF := Lib.hid hf
  have HH := Lib.hid hh
  clear hf hh
  go_enter Try.func20, Try.ntmps20
  go_wp2_with fail
  refine (cut_any A n c f _ ha hc (by omega)).mono ?_
  rintro e w' ⟨rfl, rfl⟩
  go_wp2_with fail
  refine (cut_any B m d h _ hb hd (by omega)).mono ?_
  rintro e w' ⟨rfl, rfl⟩
  go_wp2_with (first
    | (at_make; refine wpList_make_row rfl _ _ 22 rfl .u32 41 Try.underlying22 4 u32_info (by omega) .i64 .i64 _ _ (tlen f n + 1) rfl rfl rfl rfl (by omega) ?_; intro w1 hrow1 hb1 hs1)
    | (with_reducible refine wpList_copy_rd rfl (.tmp 21) (.tmp 22) 22 22 rfl 41 Try.underlying22 u32_size .u32 _ 0 (tlen f n + 1) (tlen f n + 1) A (tlen f n) c rfl rfl 41 (tlen f n + 1) (fun _ => 0) hrow1 f (tlen f n) (Nat.min_eq_left (by omega)).symm ((ha.below hb1).less ht) (by omega) ?_
       intro w2 hrow2 hwr2 hs2))
  have hb2 := hwr2.below hb1 hb1.size (Nat.le_refl _)
  refine (addTo_any w.heap.size 0 (tlen f n) _ B (tlen h m) d (tlen f n + 1) _ h w2 hrow2 (by omega) (by omega) hle (by omega) ((hb.below hb2).less hu) (fun hp => hb.off_lt (by omega) (Nat.le_refl _)) ?_ ?_ (by omega)).mono ?_
  · intro j hj
    simp only [splF, Nat.zero_add, Nat.sub_zero]
    rw [if_pos ⟨Nat.zero_le _, hj⟩]
    exact HF.out j (by omega)
  · intro j hj
    exact HH.out j (by omega)
  rintro e w3 ⟨cr, f1, rfl, hinv⟩
  obtain ⟨q1, q2, q3⟩ := add_end (tlen_lt_dig HF.out) hle hb1 hwr2 hinv
  have hcell := hinv.2.1.cell (j := tlen f n) (by omega)
  have hfz := hinv.2.1.frozen (tlen f n)
  clear hinv hrow1 hrow2
  rw [num_tlen, num_tlen] at q2
  go_wp2_with fail
  refine (cut_any _ (tlen f n + 1) (tlen f n + 1) _ _ q1 (Nat.le_refl _) (by omega)).mono ?_
  rintro e w' ⟨rfl, rfl⟩
  go_wp2
  go_ret
  exact ⟨_, rfl, q2, q3⟩
set_option maxHeartbeats 1000000 in
theorem add_lt (A : Option Addr) (n c : Nat) (f : Nat → Nat) (B : Option Addr) (m d : Nat) (h : Nat → Nat) (w : World) (ha : Rd .u32 w A n f) (hc : n ≤ c) (hn : n ≤ 17592186044415) (hf : ∀ j, j < n → f j < 4294967296)
    (hb : Rd .u32 w B m h) (hd : m ≤ d) (hm : m ≤ 17592186044415) (hh : ∀ j, j < m → h j < 4294967296) (hlt : tlen f n < tlen h m) :
    Calls Try.prog 20 #[.slice A n c, .slice B m d] w fun e w' => NatPost w w' e (num 4294967296 h m + num 4294967296 f n) := by
  have ht := tlen_le (f := f) n
  have hu := tlen_le (f := h) m
  have HF := Lib.hid hf
  have HH := Lib.hid hh
  clear hf hh
  go_enter Try.func20, Try.ntmps20
  go_wp2_with fail
  refine (cut_any A n c f _ ha hc (by omega)).mono ?_
  rintro e w' ⟨rfl, rfl⟩
  go_wp2_with fail
  refine (cut_any B m d h _ hb hd (by omega)).mono ?_
  rintro e w' ⟨rfl, rfl⟩
  go_wp2_with (first
    | (at_make; refine wpList_make_row rfl _ _ 22 rfl .u32 41 Try.underlying22 4 u32_info (by omega) .i64 .i64 _ _ (tlen h m + 1) rfl rfl rfl rfl (by omega) ?_; intro w1 hrow1 hb1 hs1)
    | (with_reducible refine wpList_copy_rd rfl (.tmp 21) (.tmp 22) 22 22 rfl 41 Try.underlying22 u32_size .u32 _ 0 (tlen h m + 1) (tlen h m + 1) B (tlen h m) d rfl rfl 41 (tlen h m + 1) (fun _ => 0) hrow1 h (tlen h m) (Nat.min_eq_left (by omega)).symm ((hb.below hb1).less hu) (by omega) ?_
       intro w2 hrow2 hwr2 hs2))
  have hb2 := hwr2.below hb1 hb1.size (Nat.le_refl _)
  refine (addTo_any w.heap.size 0 (tlen h m) _ A (tlen f n) c (tlen h m + 1) _ f w2 hrow2 (by omega) (by omega) (by omega) (by omega) ((ha.below hb2).less ht) (fun hp => ha.off_lt (by omega) (Nat.le_refl _)) ?_ ?_ (by omega)).mono ?_
  · intro j hj
    simp only [splF, Nat.zero_add, Nat.sub_zero]
    rw [if_pos ⟨Nat.zero_le _, hj⟩]
    exact HH.out j (by omega)
  · intro j hj
    exact HF.out j (by omega)
  rintro e w3 ⟨cr, f1, rfl, hinv⟩
  obtain ⟨q1, q2, q3⟩ := add_end (tlen_lt_dig HH.out) (by omega) hb1 hwr2 hinv
  have hcell := hinv.2.1.cell (j := tlen h m) (by omega)
  have hfz := hinv.2.1.frozen (tlen h m)
  clear hinv hrow1 hrow2
  rw [num_tlen, num_tlen] at q2
  go_wp2_with fail
  refine (cut_any _ (tlen h m + 1) (tlen h m + 1) _ _ q1 (Nat.le_refl _) (by omega)).mono ?_
  rintro e w' ⟨rfl, rfl⟩
  go_wp2
  go_ret
  exact ⟨_, rfl, q2, q3⟩

theorem add_any (A : Option Addr) (n c : Nat) (f : Nat → Nat) (B : Option Addr) (m d : Nat) (h : Nat → Nat) (w : World) (ha : Rd .u32 w A n f) (hc : n ≤ c) (hn : n ≤ 17592186044415) (hf : ∀ j, j < n → f j < 4294967296)
    (hb : Rd .u32 w B m h) (hd : m ≤ d) (hm : m ≤ 17592186044415) (hh : ∀ j, j < m → h j < 4294967296) :
    Calls Try.prog 20 #[.slice A n c, .slice B m d] w fun e w' => NatPost w w' e (num 4294967296 f n + num 4294967296 h m) := by
  by_cases hle : tlen h m ≤ tlen f n
  · exact add_ge A n c f B m d h w ha hc hn hf hb hd hm hh hle
  · rw [Nat.add_comm]
    exact add_lt A n c f B m d h w ha hc hn hf hb hd hm hh (by omega)
end Go.Proofs.Ytonjecddhbckgaa
