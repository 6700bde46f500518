/- Contracts: Sub32, Sub. -/
import Derived.Test.YtonjecddhbckgaaCf
import Derived.Deep.RegionWith
import Derived.Laws.BitsAllLaws
namespace Go.Proofs.Ytonjecddhbckgaa
open Go.RowKit

theorem top_bit (x : Nat) (hx : x < 4294967296) : x.testBit 31 = decide (2147483648 ≤ x) := by
  rw [Nat.testBit_eq_decide_div_mod_eq]
  congr 1
  have : x / 2 ^ 31 % 2 = 1 ↔ 2147483648 ≤ x := by
    have e : (2 : Nat) ^ 31 = 2147483648 := by decide
    rw [e]; omega
  exact propext this
theorem top_div (N : Nat) (hN : N < 4294967296) : N / 2147483648 = if N.testBit 31 then 1 else 0 := by
  rw [top_bit N hN]
  by_cases h : 2147483648 ≤ N
  · simp [h]; omega
  · simp [h]; omega

def subD (x y c : Nat) : Nat := (x + 4294967296 + 4294967296 - y - c) % 4294967296
def subC (x y c : Nat) : Nat := if x < y + c then 1 else 0
theorem subC_le (x y c : Nat) : subC x y c ≤ 1 := by unfold subC; split <;> omega
theorem subD_lt (x y c : Nat) : subD x y c < 4294967296 := Nat.mod_lt _ (by omega)
theorem sub_eq (x y c : Nat) (hx : x < 4294967296) (hy : y < 4294967296) (hc : c ≤ 1) : subD x y c + y + c = x + 4294967296 * subC x y c := by
  unfold subD subC; split <;> omega

theorem sub_bits (x y c : Nat) (hx : x < 4294967296) (hy : y < 4294967296) (hc : c ≤ 1) :
    (((4294967295 ^^^ x) &&& y) ||| ((4294967295 ^^^ (x ^^^ y)) &&& subD x y c)) / 2147483648 = subC x y c := by
  have e : (4294967296 : Nat) = 2 ^ 32 := by decide
  have hd := subD_lt x y c
  have hq := sub_eq x y c hx hy hc
  have hN : (((4294967295 ^^^ x) &&& y) ||| ((4294967295 ^^^ (x ^^^ y)) &&& subD x y c)) < 4294967296 := by
    rw [e] at *
    exact Nat.or_lt_two_pow (Nat.and_lt_two_pow _ hy) (Nat.and_lt_two_pow _ hd)
  rw [top_div _ hN, Nat.testBit_or, Nat.testBit_and, Nat.testBit_and, Nat.testBit_xor, Nat.testBit_xor, Nat.testBit_xor, top_bit x hx, top_bit y hy, top_bit _ hd]
  have hM : (4294967295 : Nat).testBit 31 = true := by decide
  rw [hM]
  unfold subC at *
  generalize subD x y c = d at *
  by_cases h1 : 2147483648 ≤ x <;> by_cases h2 : 2147483648 ≤ y <;> by_cases h3 : 2147483648 ≤ d <;> by_cases h4 : x < y + c <;> simp [h1, h2, h3, h4] <;> simp [h4] at hq <;> omega

theorem sub_bits_int (x y c : Nat) (hx : x < 4294967296) (hy : y < 4294967296) (hc : c ≤ 1) :
    (bits BinOp.or IntKind.u32 (bits BinOp.and IntKind.u32 (bits BinOp.xor IntKind.u32 IntKind.u32.max ↑x) ↑y)
      (bits BinOp.and IntKind.u32 (bits BinOp.xor IntKind.u32 IntKind.u32.max (bits BinOp.xor IntKind.u32 ↑x ↑y)) (((x : Int) - y - c) % 4294967296)) / 2147483648) = (subC x y c : Nat) := by
  have hm : IntKind.u32.max = ((4294967295 : Nat) : Int) := by decide
  have e : (4294967296 : Nat) = 2 ^ 32 := by decide
  have hd : ((x : Int) - y - c) % 4294967296 = (subD x y c : Nat) := by unfold subD; omega
  have h1 : (4294967295 ^^^ x) < 4294967296 := by rw [e] at *; exact Nat.xor_lt_two_pow (by decide) hx
  have h2 : (x ^^^ y) < 4294967296 := by rw [e] at *; exact Nat.xor_lt_two_pow hx hy
  have h3 : (4294967295 ^^^ (x ^^^ y)) < 4294967296 := by rw [e] at *; exact Nat.xor_lt_two_pow (by decide) h2
  have h4 : ((4294967295 ^^^ x) &&& y) < 4294967296 := by rw [e] at *; exact Nat.and_lt_two_pow _ hy
  have h5 : ((4294967295 ^^^ (x ^^^ y)) &&& subD x y c) < 4294967296 := by have := subD_lt x y c; rw [e] at *; exact Nat.and_lt_two_pow _ this
  rw [hd, hm, u32_xor_nat _ _ (by omega) hx, u32_and_nat _ _ h1 hy, u32_xor_nat _ _ hx hy, u32_xor_nat _ _ (by omega) h2, u32_and_nat _ _ h3 (subD_lt x y c), u32_or_nat _ _ h4 h5]
  rw [← sub_bits x y c hx hy hc]
  rfl

def Sub32Post (w w' : World) (e : Ending) (x y c : Nat) : Prop := e = .returned (.tuple #[.int .u32 (subD x y c : Nat), .int .u32 (subC x y c : Nat)]) ∧ w' = w

set_option maxHeartbeats 400000 in
theorem sub32_any (x y c : Nat) (hx : x < 4294967296) (hy : y < 4294967296) (hc : c ≤ 1) (w : World) :
    Calls Try.prog 38 #[.int .u32 x, .int .u32 y, .int .u32 c] w fun e w' => Sub32Post w w' e x y c := by
  have hs : IntKind.u32.signed = false := rfl
  have hd : ((x : Int) - y - c) % 4294967296 = (subD x y c : Nat) := by unfold subD; omega
  have hb := sub_bits_int x y c hx hy hc
  have HD := Lib.hid hd
  have HB := Lib.hid hb
  clear hd hb
  go_enter Try.func38, Try.ntmps38
  go_wp2
  go_ret2
  refine ⟨?_, rfl⟩
  have e1 := HD.out
  have e2 := HB.out
  show Ending.returned (.tuple #[.int .u32 _, .int .u32 _]) = _
  have e3 : (((x : Int) - y) % 4294967296 - c) % 4294967296 = (subD x y c : Nat) := by rw [← e1]; omega
  rw [e2, e3]

/-- After k limbs of Sub. -/
def SubInv (w wr : World) (g sz k cr : Nat) (f h f' : Nat → Nat) : Prop :=
  cr ≤ 1 ∧ Row .u32 41 wr g sz f' ∧ Wr g w wr ∧ (∀ j, k ≤ j → f' j = f j) ∧ (∀ j, j < k → f' j < 4294967296) ∧
    num 4294967296 f' k + num 4294967296 h k = num 4294967296 f k + cr * 4294967296 ^ k

theorem SubInv.step {w wr : World} {g sz k cr : Nat} {f h f' : Nat → Nat} (hi : SubInv w wr g sz k cr f h f') (hf : f k < 4294967296) (hh : h k < 4294967296) (x : Int) (hx : x = (subD (f' k) (h k) cr : Nat)) :
    SubInv w (wr.setCell ⟨g, k, none⟩ (.int .u32 x)) g sz (k + 1) (subC (f' k) (h k) cr) f h (upd f' k (subD (f' k) (h k) cr)) := by
  subst hx
  obtain ⟨h1, h2, h3, h4, h5, h6⟩ := hi
  have e0 : f' k = f k := h4 _ (by omega)
  refine ⟨subC_le _ _ _, h2.set_ _ _, h3.setCell _ _, fun j hj => ?_, fun j hj => ?_, ?_⟩
  · rw [upd_ne _ _ _ (by omega)]; exact h4 j (by omega)
  · by_cases hjk : j = k
    · subst hjk; rw [upd_same]; exact subD_lt _ _ _
    · rw [upd_ne _ _ _ (by omega)]; exact h5 j (by omega)
  · rw [num_succ, num_succ, num_succ, upd_same, num_upd _ _ (Nat.le_refl _), e0]
    have hq := sub_eq (f k) (h k) cr hf hh h1
    generalize subD (f k) (h k) cr = r at *
    generalize subC (f k) (h k) cr = q at *
    rw [Nat.pow_succ]
    generalize 4294967296 ^ k = T at *
    have e1 : q * (T * 4294967296) = (4294967296 * q) * T := by rw [Nat.mul_comm (4294967296) q, Nat.mul_assoc, Nat.mul_comm T]
    rw [e1]
    have e3 : (r + h k + cr) * T = (f k + 4294967296 * q) * T := by rw [hq]
    rw [Nat.add_mul, Nat.add_mul, Nat.add_mul] at e3
    omega

theorem SubInv.drew {w wr : World} {g sz k cr : Nat} {f h f' : Nat → Nat} (hi : SubInv w wr g sz k cr f h f') : SubInv w wr.drew g sz k cr f h f' := by
  obtain ⟨h1, h2, h3, h4⟩ := hi
  exact ⟨h1, h2.drew, h3.drew, h4⟩

theorem SubInv.ext {w wr : World} {g sz k n : Nat} {f h f' : Nat → Nat} (hi : SubInv w wr g sz k 0 f h f') (hk : k ≤ n) (hf : ∀ j, j < n → f j < 4294967296) (hh : ∀ j, k ≤ j → j < n → h j = 0) :
    SubInv w wr g sz n 0 f h f' := by
  induction n with
  | zero => obtain rfl : k = 0 := by omega
            exact hi
  | succ n ih =>
    by_cases hkn : k = n + 1
    · subst hkn; exact hi
    · obtain ⟨h1, h2, h3, h4, h5, h6⟩ := ih (by omega) (fun j hj => hf j (by omega)) (fun j a b => hh j a (by omega))
      have e0 : f' n = f n := h4 _ (by omega)
      refine ⟨h1, h2, h3, fun j hj => h4 j (by omega), fun j hj => ?_, ?_⟩
      · by_cases hjn : j = n
        · subst hjn; rw [e0]; exact hf j (by omega)
        · exact h5 j (by omega)
      · rw [num_succ, num_succ, num_succ, hh n (by omega) (by omega), e0]
        omega

theorem SubInv.congr {w wr : World} {g sz k cr : Nat} {f h h' f' : Nat → Nat} (hi : SubInv w wr g sz k cr f h f') (he : ∀ j, j < k → h j = h' j) : SubInv w wr g sz k cr f h' f' := by
  obtain ⟨h1, h2, h3, h4, h5, h6⟩ := hi
  exact ⟨h1, h2, h3, h4, h5, by rw [← num_congr k he]; exact h6⟩

/-- With something borrowed at its end, Sub's first number is the lesser one. -/
theorem SubInv.lt {w wr : World} {g sz n cr m : Nat} {f h f' : Nat → Nat} (hi : SubInv w wr g sz n cr f (fun j => if j < m then h j else 0) f') (hm : m ≤ n) (hle : num 4294967296 h m ≤ num 4294967296 f n) : cr = 0 := by
  obtain ⟨h1, h2, h3, h4, h5, h6⟩ := hi
  rw [num_pad n hm] at h6
  have h7 := num_lt (B := 4294967296) (f := f') (by omega) n h5
  rcases Nat.eq_zero_or_pos cr with h | h
  · exact h
  · obtain rfl : cr = 1 := by omega
    omega

/-- What Sub leaves. -/
def SubPost (w w' : World) (e : Ending) (x y : Nat) : Prop :=
  ∃ v, e = .returned (.tuple #[v, .bool (decide (y ≤ x))]) ∧ IsNat w' v (x - y) ∧ Below w.heap.size w w'

set_option maxHeartbeats 1000000 in
theorem sub_less (A : Option Addr) (n c : Nat) (f : Nat → Nat) (B : Option Addr) (m d : Nat) (h : Nat → Nat) (w : World) (ha : Rd .u32 w A n f) (hc : n ≤ c) (hn : n ≤ 17592186044416) (hf : ∀ j, j < n → f j < 4294967296)
    (hb : Rd .u32 w B m h) (hd : m ≤ d) (hm : m ≤ 17592186044416) (hh : ∀ j, j < m → h j < 4294967296) (hlt : num 4294967296 f n < num 4294967296 h m) :
    Calls Try.prog 13 #[.slice A n c, .slice B m d] w fun e w' => SubPost w w' e (num 4294967296 f n) (num 4294967296 h m) := by
  have C := cmp_any A n c f B m d h w ha hc hn hf hb hd hm hh
  generalize num 4294967296 f n = x at *
  generalize num 4294967296 h m = y at *
  have hcm : cmpN x y = -1 := by unfold cmpN; rw [if_pos hlt]
  have C' : Calls Try.prog 18 #[.slice A n c, .slice B m d] w fun e w' => e = .returned (.int .i64 (-1)) ∧ Below w.heap.size w w' := by
    unfold CmpPost at C; rw [hcm] at C; exact C
  have D := Lib.hid C'
  have HL := Lib.hid hlt
  clear C C' hcm hlt hf hh ha hb
  go_enter Try.func13, Try.ntmps13
  go_wp2_with fail
  refine D.out.mono ?_
  rintro e w1 ⟨rfl, hbl⟩
  go_wp2
  go_ret2
  have := HL.out
  refine ⟨.slice none 0 0, ?_, ⟨none, 0, 0, fun _ => 0, rfl, Nat.le_refl _, Rd.zero, fun j hj => absurd hj (by omega), .inl rfl, by rw [Nat.sub_eq_zero_of_le (by omega)]; rfl⟩, hbl⟩
  rw [decide_eq_false (by omega)]
  rfl

set_option maxHeartbeats 2000000 in
theorem sub_more (A : Option Addr) (n c : Nat) (f : Nat → Nat) (B : Option Addr) (m d : Nat) (h : Nat → Nat) (w : World) (ha : Rd .u32 w A n f) (hc : n ≤ c) (hn : n ≤ 17592186044416) (hf : ∀ j, j < n → f j < 4294967296)
    (hb : Rd .u32 w B m h) (hd : m ≤ d) (hm : m ≤ 17592186044416) (hh : ∀ j, j < m → h j < 4294967296) (hle : num 4294967296 h m ≤ num 4294967296 f n) (r : Int) (hr : r = cmpN (num 4294967296 f n) (num 4294967296 h m)) (hr0 : 0 ≤ r) :
    Calls Try.prog 13 #[.slice A n c, .slice B m d] w fun e w' => SubPost w w' e (num 4294967296 f n) (num 4294967296 h m) := by
  have C := cmp_any A n c f B m d h w ha hc hn hf hb hd hm hh
  have C' : Calls Try.prog 18 #[.slice A n c, .slice B m d] w fun e w' => e = .returned (.int .i64 r) ∧ Below w.heap.size w w' := by
    subst hr; exact C
  have D := Lib.hid C'
  have HE := Lib.hid (decide_eq_true hle)
  have ht := tlen_le (f := f) n
  have hu := tlen_le (f := h) m
  have hml : tlen h m ≤ tlen f n := by
    rcases Nat.lt_or_ge (tlen f n) (tlen h m) with hlt | hge
    · have := num_len_lt (B := 4294967296) (by omega) (tlen_lt_dig hf) (tlen_trimmed (f := h) m) hlt
      rw [num_tlen, num_tlen] at this
      omega
    · exact hge
  have hle' : num 4294967296 h (tlen h m) ≤ num 4294967296 f (tlen f n) := by rw [num_tlen, num_tlen]; exact hle
  have HL := Lib.hid hle'
  have HF := Lib.hid (tlen_lt_dig hf)
  have HH := Lib.hid (tlen_lt_dig hh)
  rw [← num_tlen (f := f) n, ← num_tlen (f := h) m]
  have hg1 : decide (r < 0) = false := decide_eq_false (by omega)
  clear C C' hf hh hle hle'
  go_enter Try.func13, Try.ntmps13
  go_wp2_with fail
  refine D.out.mono ?_
  rintro e w1 ⟨rfl, hbl⟩
  have ha1 := ha.below hbl
  have hb1 := hb.below hbl
  go_wp2_with fail
  refine (trim_any A n c f w1 ha1 hc hn).mono ?_
  rintro e w2 ⟨rfl, f2, hrow2, hf2, hbl2, hs2⟩
  have hb2 := hb1.below hbl2
  go_wp2_with fail
  refine (cut_any B m d h w2 hb2 hd (by omega)).mono ?_
  rintro e w' ⟨rfl, rfl⟩
  have hb3 := hb2.less hu
  have HB3 := Lib.hid hb3
  have HF2 := Lib.hid hf2
  have HOff : Hid (0 < tlen h m → Off B w1.heap.size) := fun hp => hb1.off_lt (by omega) (Nat.le_refl _)
  clear ha hb ha1 hb1 hb2 hb3 hf2 D hr
  go_wp2
  have hq2 : ∀ j, j < tlen f n → f2 j < 4294967296 := fun j hj => by rw [HF2.out j hj]; exact HF.out j hj
  have HQ2 := Lib.hid hq2
  have hle2 : num 4294967296 h (tlen h m) ≤ num 4294967296 f2 (tlen f n) := by
    rw [num_congr (f := f2) (f' := f) _ HF2.out]; exact HL.out
  have HL2 := Lib.hid hle2
  clear hq2 hle2
  go_loopw [7, 20] (fun v7 v20 wr => ∃ k cr f', k ≤ tlen h m ∧ v7 = .int .u32 (cr : Nat) ∧ v20 = .int .i64 (k : Nat) ∧ SubInv w2 wr w1.heap.size (tlen f n) k cr f2 h f') (fun _ v20 _ => tlen h m - (intOf v20).toNat)
  case atStart => exact ⟨0, 0, f2, Nat.zero_le _, rfl, rfl, by omega, hrow2, Wr.refl, fun _ _ => rfl, fun _ hj => absurd hj (by omega), by simp [num]⟩
  case round =>
    obtain ⟨k, cr, f', hk, rfl, rfl, hinv⟩ := hrel
    have hcr : cr ≤ 1 := hinv.1
    clear hrow2
    by_cases hlt : k < tlen h m
    · obtain ⟨ad, rfl, hcell⟩ := (HB3.out.wr (HOff.out (by omega)) hinv.2.2.1) k hlt
      have hcell2 := hinv.2.1.cell (j := k) (by omega)
      have hfz := hinv.2.1.frozen k
      have b0 : f2 k < 4294967296 := HQ2.out k (by omega)
      have b1 : f' k < 4294967296 := by rw [hinv.2.2.2.1 k (Nat.le_refl _)]; exact b0
      have b2 : h k < 4294967296 := HH.out k hlt
      go_wp2
      go_region_with (go_at_call 38; refine (sub32_any _ _ _ b1 b2 hcr _).mono ?_; rintro e w' ⟨rfl, rfl⟩)
      all_goals
        go_wp2
        go_roundw
        case rel => exact ⟨k + 1, _, _, by omega, rfl, by go_num, (hinv.step b0 b2 _ rfl).drew⟩
        case measure => simp [intOf]; omega
    · obtain rfl : k = tlen h m := by omega
      have hinv2 : SubInv w2 wr w1.heap.size (tlen f n) (tlen h m) cr f2 (fun j => if j < tlen h m then h j else 0) f' := hinv.congr fun j hj => (if_pos hj).symm
      have HI := Lib.hid hinv2
      clear hinv hinv2 hlt
      go_wp2
      go_loopw [7, 9] (fun v7 v9 wr => ∃ i cr f', tlen h m ≤ i ∧ i ≤ tlen f n ∧ v7 = .int .u32 (cr : Nat) ∧ v9 = .int .i64 (i : Nat) ∧ SubInv w2 wr w1.heap.size (tlen f n) i cr f2 (fun j => if j < tlen h m then h j else 0) f') (fun _ v9 _ => tlen f n - (intOf v9).toNat)
      case atStart => exact ⟨tlen h m, cr, f', Nat.le_refl _, hml, rfl, rfl, HI.out⟩
      case round =>
        clear HI hcr
        obtain ⟨i, cr, f', hki, hin, rfl, rfl, hinv⟩ := hrel
        by_cases hc0 : cr = 0
        · subst hc0
          obtain ⟨_, q2, q3, _, q5, q6⟩ := hinv.ext hin HQ2.out (fun j a _ => if_neg (by omega))
          rw [num_pad _ hml, num_congr (f := f2) (f' := f) _ HF2.out] at q6
          have q7 : IsNat wr (.slice (some ⟨w1.heap.size, 0, none⟩) (tlen f' (tlen f n)) (tlen f n)) (num 4294967296 f (tlen f n) - num 4294967296 h (tlen h m)) :=
            isNat_row q2 (Nat.le_refl _) (Nat.le_refl _) q5 (by omega)
          have q8 : Below w.heap.size w wr := q3.below ((hbl.trans (hbl2.mono hbl.size))) (by have := hbl.size; omega) hbl.size
          have q9 := q2.rd0 (n := tlen f n) (Nat.le_refl _)
          have Q6 := Lib.hid q6
          have Q5 := Lib.hid q5
          clear q6 q5 hinv q2
          go_wp2_with fail
          refine (cut_any _ (tlen f n) (tlen f n) _ _ q9 (Nat.le_refl _) (by omega)).mono ?_
          rintro e w' ⟨rfl, rfl⟩
          go_wp2
          go_ret2
          refine ⟨_, ?_, q7, q8⟩
          rw [num_tlen, num_tlen, HE.out]
          rfl
        · have hin' : i < tlen f n := by
            rcases Nat.lt_or_ge i (tlen f n) with h1 | h1
            · exact h1
            · obtain rfl : i = tlen f n := by omega
              exact absurd (hinv.lt hml HL2.out) hc0
          have hg : ((cr : Int) != 0) = true := by rw [bne_iff_ne]; omega
          have hcr : cr ≤ 1 := hinv.1
          have hcell2 := hinv.2.1.cell (j := i) (by omega)
          have hfz := hinv.2.1.frozen i
          have b0 : f2 i < 4294967296 := HQ2.out i (by omega)
          have b1 : f' i < 4294967296 := by rw [hinv.2.2.2.1 i (Nat.le_refl _)]; exact b0
          have hst := hinv.step b0 (by rw [if_neg (by omega)]; omega) _ rfl
          rw [if_neg (show ¬ i < tlen h m by omega)] at hst
          have HS := Lib.hid hst
          clear hst hinv hc0
          go_wp2_with (go_at_call 38; refine (sub32_any _ 0 _ b1 (by omega) hcr _).mono ?_; rintro e w' ⟨rfl, rfl⟩)
          go_roundw
          case rel => exact ⟨i + 1, _, _, by omega, by omega, rfl, by go_num, HS.out⟩
          case measure => simp [intOf]; omega

theorem sub_any (A : Option Addr) (n c : Nat) (f : Nat → Nat) (B : Option Addr) (m d : Nat) (h : Nat → Nat) (w : World) (ha : Rd .u32 w A n f) (hc : n ≤ c) (hn : n ≤ 17592186044416) (hf : ∀ j, j < n → f j < 4294967296)
    (hb : Rd .u32 w B m h) (hd : m ≤ d) (hm : m ≤ 17592186044416) (hh : ∀ j, j < m → h j < 4294967296) :
    Calls Try.prog 13 #[.slice A n c, .slice B m d] w fun e w' => SubPost w w' e (num 4294967296 f n) (num 4294967296 h m) := by
  by_cases hlt : num 4294967296 f n < num 4294967296 h m
  · exact sub_less A n c f B m d h w ha hc hn hf hb hd hm hh hlt
  · exact sub_more A n c f B m d h w ha hc hn hf hb hd hm hh (by omega) _ rfl (by unfold cmpN; rw [if_neg hlt]; split <;> omega)
end Go.Proofs.Ytonjecddhbckgaa
