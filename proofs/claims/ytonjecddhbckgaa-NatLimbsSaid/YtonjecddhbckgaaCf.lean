/- Contracts: Cmp. -/
import Derived.Test.YtonjecddhbckgaaCe
import Derived.Test.YtonjecddhbckgaaCc
namespace Go.Proofs.Ytonjecddhbckgaa
open Go.RowKit

def cmpN (x y : Nat) : Int := if x < y then -1 else if x = y then 0 else 1

set_option maxHeartbeats 400000 in
theorem sign_t (w : World) : Calls Try.prog 42 #[.bool true] w fun e w' => e = .returned (.int .i64 (-1)) ∧ w' = w := by
  go_enter Try.func42, Try.ntmps42
  go_wp2
  go_ret
  exact ⟨rfl, rfl⟩
set_option maxHeartbeats 400000 in
theorem sign_f (w : World) : Calls Try.prog 42 #[.bool false] w fun e w' => e = .returned (.int .i64 1) ∧ w' = w := by
  go_enter Try.func42, Try.ntmps42
  go_wp2
  go_ret
  exact ⟨rfl, rfl⟩

theorem num_top_lt {B : Nat} {f h : Nat → Nat} (hB : 0 < B) {n j : Nat} (hj : j < n) (hf : ∀ i, i < n → f i < B) (ht : f j < h j) (he : ∀ i, j < i → i < n → f i = h i) : num B f n < num B h n := by
  induction n with
  | zero => omega
  | succ n ih =>
    rw [num_succ, num_succ]
    by_cases hjn : j = n
    · subst hjn
      have h1 := num_lt hB j (fun i hi => hf i (by omega))
      have h2 : (f j + 1) * B ^ j ≤ h j * B ^ j := Nat.mul_le_mul_right _ ht
      rw [Nat.add_mul, Nat.one_mul] at h2
      omega
    · have h1 := ih (by omega) (fun i hi => hf i (by omega)) (fun i a b => he i a (by omega))
      rw [he n (by omega) (by omega)]
      omega
theorem num_len_lt {B : Nat} {f h : Nat → Nat} (hB : 1 < B) {n m : Nat} (hf : ∀ i, i < n → f i < B) (ht : Trimmed h m) (hnm : n < m) : num B f n < num B h m := by
  have h1 := num_lt (by omega) n hf
  have h2 := ht.low (B := B) (by omega)
  have h3 : B ^ n ≤ B ^ (m - 1) := Nat.pow_le_pow_right (by omega) (by omega)
  omega

/-- What Cmp leaves. -/
def CmpPost (w w' : World) (e : Ending) (x y : Nat) : Prop := e = .returned (.int .i64 (cmpN x y)) ∧ Below w.heap.size w w'

set_option maxHeartbeats 1000000 in
theorem cmp_any (A : Option Addr) (n c : Nat) (f : Nat → Nat) (B : Option Addr) (m d : Nat) (h : Nat → Nat) (w : World) (ha : Rd .u32 w A n f) (hc : n ≤ c) (hn : n ≤ 17592186044416) (hf : ∀ j, j < n → f j < 4294967296)
    (hb : Rd .u32 w B m h) (hd : m ≤ d) (hm : m ≤ 17592186044416) (hh : ∀ j, j < m → h j < 4294967296) :
    Calls Try.prog 18 #[.slice A n c, .slice B m d] w fun e w' => CmpPost w w' e (num 4294967296 f n) (num 4294967296 h m) := by
  have ht := tlen_le (f := f) n
  have hu := tlen_le (f := h) m
  rw [← num_tlen (f := f) n, ← num_tlen (f := h) m]
  have HF := Lib.hid (tlen_lt_dig hf)
  have HH := Lib.hid (tlen_lt_dig hh)
  have HFt := Lib.hid (tlen_trimmed (f := f) n)
  have HHt := Lib.hid (tlen_trimmed (f := h) m)
  have ha' := ha.less ht
  have hb' := hb.less hu
  have C1 := fun w' hr' => cut_any A n c f w' hr' hc (by omega)
  have C2 := fun w' hr' => cut_any B m d h w' hr' hd (by omega)
  generalize tlen h m = q at *
  generalize tlen f n = p at *
  have D1 := Lib.hid C1
  have D2 := Lib.hid C2
  clear C1 C2 hf hh
  by_cases hne : p = q
  · subst hne
    go_enter Try.func18, Try.ntmps18
    go_wp2_with fail
    refine (D1.out _ ha).mono ?_
    rintro e w' ⟨rfl, rfl⟩
    go_wp2_with fail
    refine (D2.out _ hb).mono ?_
    rintro e w' ⟨rfl, rfl⟩
    clear ha hb
    have hq : p ≤ 17592186044416 := by omega
    have hg1 : ((p : Int) != (p : Int)) = false := by simp
    go_wp2
    go_loopw [24] (fun v wr => ∃ k : Nat, k ≤ p ∧ v = .int .i64 k ∧ Below w.heap.size w wr ∧ ∀ j, p - k ≤ j → j < p → f j = h j) (fun v _ => p - (intOf v).toNat)
    case atStart => exact ⟨0, Nat.zero_le _, rfl, Below.refl _ _, fun j h1 h2 => by omega⟩
    case round =>
      obtain ⟨k, hk, rfl, hbl, hs⟩ := hrel
      have HA := Lib.hid ha'
      have HB := Lib.hid hb'
      have HS := Lib.hid hs
      clear ha' hb' hs
      by_cases hlt : k < p
      · obtain ⟨ad, rfl, hc1⟩ := (HA.out.below hbl) (p - 1 - k) (by omega)
        obtain ⟨bd, rfl, hc2⟩ := (HB.out.below hbl) (p - 1 - k) (by omega)
        by_cases he : f (p - 1 - k) = h (p - 1 - k)
        · rw [← he] at hc2
          have HE := Lib.hid he
          clear he
          go_wp2
          go_quiet (fail)
          go_wp2
          go_roundw
          case rel => exact ⟨k + 1, by omega, by go_num, Below.drewN_ hbl _, fun j h1 h2 => by
            by_cases hjk : j = p - 1 - k
            · subst hjk; exact HE.out
            · exact HS.out j (by omega) h2⟩
          case measure => simp [intOf]; omega
        · have hg2 : ((f (p - 1 - k) : Int) != (h (p - 1 - k) : Int)) = true := by rw [bne_iff_ne]; omega
          by_cases hl : f (p - 1 - k) < h (p - 1 - k)
          · have hl' : cmpN (num 4294967296 f p) (num 4294967296 h p) = -1 := by
              unfold cmpN
              rw [if_pos (num_top_lt (by omega) (by omega) HF.out hl (fun i h1 h2 => HS.out i (by omega) h2))]
            have HL := Lib.hid hl'
            clear hl' he
            go_wp2
            go_quiet (fail)
            go_wp2
            have hbl2 := Below.drewN_ hbl nq
            have hc3 : (wr.drewN nq).cell? (ad.add (p - 1 - k)) = some (.int .u32 (f (p - 1 - k) : Nat)) := hc1
            have hc4 : (wr.drewN nq).cell? (bd.add (p - 1 - k)) = some (.int .u32 (h (p - 1 - k) : Nat)) := hc2
            generalize wr.drewN nq = w2 at *
            clear hc1 hc2
            go_quiet ((go_at_call 42; exact Calls.quiet_of_same (sign_t _)))
            go_wp2
            go_ret
            exact ⟨by rw [HL.out]; rfl, Below.drewN_ hbl2 _⟩
          · have hl' : cmpN (num 4294967296 f p) (num 4294967296 h p) = 1 := by
              have := num_top_lt (f := h) (h := f) (n := p) (j := p - 1 - k) (B := 4294967296) (by omega) (by omega) HH.out (by omega) (fun i h1 h2 => (HS.out i (by omega) h2).symm)
              unfold cmpN
              rw [if_neg (by omega), if_neg (by omega)]
            have HL := Lib.hid hl'
            clear hl' he
            go_wp2
            go_quiet (fail)
            go_wp2
            have hbl2 := Below.drewN_ hbl nq
            have hc3 : (wr.drewN nq).cell? (ad.add (p - 1 - k)) = some (.int .u32 (f (p - 1 - k) : Nat)) := hc1
            have hc4 : (wr.drewN nq).cell? (bd.add (p - 1 - k)) = some (.int .u32 (h (p - 1 - k) : Nat)) := hc2
            generalize wr.drewN nq = w2 at *
            clear hc1 hc2
            go_quiet ((go_at_call 42; exact Calls.quiet_of_same (sign_f _)))
            go_wp2
            go_ret
            exact ⟨by rw [HL.out]; rfl, Below.drewN_ hbl2 _⟩
      · have hl' : cmpN (num 4294967296 f p) (num 4294967296 h p) = 0 := by
          unfold cmpN
          have := num_congr (B := 4294967296) (f := f) (f' := h) p (fun j hj => HS.out j (by omega) hj)
          rw [if_neg (by omega), if_pos this]
        have HL := Lib.hid hl'
        clear hl'
        go_wp2
        go_ret
        exact ⟨by rw [HL.out]; rfl, hbl⟩
  · have hg1 : ((p : Int) != (q : Int)) = true := by rw [bne_iff_ne]; omega
    have hbr := Below.refl w.heap.size w
    by_cases hl : p < q
    · have hl' : cmpN (num 4294967296 f (p)) (num 4294967296 h (q)) = -1 := by
        unfold cmpN
        rw [if_pos (num_len_lt (by omega) HF.out HHt.out hl)]
      have HL := Lib.hid hl'
      clear hl' hne
      go_enter Try.func18, Try.ntmps18
      go_wp2_with fail
      refine (D1.out _ ha).mono ?_
      rintro e w' ⟨rfl, rfl⟩
      go_wp2_with fail
      refine (D2.out _ hb).mono ?_
      rintro e w' ⟨rfl, rfl⟩
      go_wp2_with fail
      refine (sign_t _).mono ?_
      rintro e w' ⟨rfl, rfl⟩
      go_wp2
      go_ret
      exact ⟨by rw [HL.out]; rfl, hbr⟩
    · have hl' : cmpN (num 4294967296 f (p)) (num 4294967296 h (q)) = 1 := by
        have := num_len_lt (B := 4294967296) (f := h) (h := f) (n := q) (m := p) (by omega) HH.out HFt.out (by omega)
        unfold cmpN
        rw [if_neg (by omega), if_neg (by omega)]
      have HL := Lib.hid hl'
      clear hl' hne
      go_enter Try.func18, Try.ntmps18
      go_wp2_with fail
      refine (D1.out _ ha).mono ?_
      rintro e w' ⟨rfl, rfl⟩
      go_wp2_with fail
      refine (D2.out _ hb).mono ?_
      rintro e w' ⟨rfl, rfl⟩
      go_wp2_with fail
      refine (sign_f _).mono ?_
      rintro e w' ⟨rfl, rfl⟩
      go_wp2
      go_ret
      exact ⟨by rw [HL.out]; rfl, hbr⟩
end Go.Proofs.Ytonjecddhbckgaa
