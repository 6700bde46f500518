/- Contracts: putDigits, Text. -/
import Derived.Test.YtonjecddhbckgaaCl
import Derived.Test.YtonjecddhbckgaaDec
namespace Go.Proofs.Ytonjecddhbckgaa
open Go.RowKit

/-- After k digits, from the last on. -/
def PutInv (w wr : World) (g o n sz k N : Nat) (f f' : Nat → Nat) : Prop :=
  Row .u8 5 wr g sz f' ∧ Wr g w wr ∧ (∀ j, ¬ (o + (n - k) ≤ j ∧ j < o + n) → f' j = f j) ∧ (∀ i, i < k → f' (o + (n - 1 - i)) = dig N i)

theorem PutInv.step {w wr : World} {g o n sz k N : Nat} {f f' : Nat → Nat} (hi : PutInv w wr g o n sz k N f f') (hk : k < n) (x : Int) (hx : x = (dig N k : Nat)) :
    PutInv w (wr.setCell ⟨g, o + (n - 1 - k), none⟩ (.int .u8 x)) g o n sz (k + 1) N f (upd f' (o + (n - 1 - k)) (dig N k)) := by
  subst hx
  obtain ⟨h1, h2, h3, h4⟩ := hi
  refine ⟨h1.set_ _ _, h2.setCell _ _, fun j hj => ?_, fun i hi => ?_⟩
  · rw [upd_ne _ _ _ (by omega)]; exact h3 j (by omega)
  · by_cases hik : i = k
    · subst hik; rw [upd_same]
    · rw [upd_ne _ _ _ (by omega)]; exact h4 i (by omega)

set_option maxHeartbeats 1000000 in
theorem putDigits_any (g o n c sz N : Nat) (f : Nat → Nat) (w : World) (hrow : Row .u8 5 w g sz f) (hsz : o + n ≤ sz) (hN : N < 4294967296) (hn : n ≤ 4611686018427387904) :
    Calls Try.prog 55 #[.slice (some ⟨g, o, none⟩) n c, .int .u32 (N : Nat)] w fun e w' => ∃ f', e = .returned (.tuple #[]) ∧ PutInv w w' g o n sz n N f f' := by
  go_enter Try.func55, Try.ntmps55
  go_wp2
  go_loopw [1, 7] (fun v1 v7 wr => ∃ k M f', k ≤ n ∧ M = N / 10 ^ k ∧ v1 = .int .u32 (M : Nat) ∧ v7 = .int .i64 (k : Nat) ∧ PutInv w wr g o n sz k N f f') (fun _ v7 _ => n - (intOf v7).toNat)
  case atStart => exact ⟨0, N, f, Nat.zero_le _, by simp, rfl, rfl, hrow, Wr.refl, fun _ _ => rfl, fun i hi => absurd hi (by omega)⟩
  case round =>
    obtain ⟨k, M, f', hk, hM, rfl, rfl, hinv⟩ := hrel
    have hM1 : M < 4294967296 := by rw [hM]; exact Nat.lt_of_le_of_lt (Nat.div_le_self _ _) hN
    have hM2 : Hid (M / 10 = N / 10 ^ (k + 1)) := by rw [hM]; show _ = _; rw [Nat.div_div_eq_div_mul, Nat.pow_succ]
    have hM3 : dig N k = 48 + M % 10 := by rw [hM]; rfl
    clear hrow hM
    by_cases hlt : k < n
    · have hcell := hinv.1.cell (j := o + (n - 1 - k)) (by omega)
      have hfz := hinv.1.frozen (o + (n - 1 - k))
      have HS := Lib.hid (hinv.step hlt ((48 + M % 10 : Int)) (by rw [hM3]; omega))
      clear hinv hM3
      go_wp2
      go_roundw
      case rel => exact ⟨k + 1, M / 10, _, by omega, hM2.out, rfl, by go_num, HS.out⟩
      case measure => simp [intOf]; omega
    · obtain rfl : k = n := by omega
      go_wp2
      go_end0
      exact ⟨f', rfl, hinv⟩

theorem u8_info : (Try.prog.info? 5).map (fun i => (i.zero, i.size, i.bytes)) = some (some (.int .u8 0), 1, 1) := by kernel_rfl
theorem u8_size : (Try.prog.info? 5).map (·.size) = some 1 := by kernel_rfl
theorem el32 : Try.prog.underlying 32 = some (.slice (Try.prog.elem 32)) := by kernel_rfl
theorem sz32 (w : World) : (sizeOf (Try.prog.elem 32)).run Try.prog w = .ok 1 w := by kernel_rfl
theorem under9 : Try.prog.underlying 9 = some .string := by kernel_rfl
theorem under5 : Try.prog.underlying 5 = some (.int .u8) := by kernel_rfl
theorem under32 : Try.prog.underlying 32 = some (.slice 5) := by kernel_rfl
theorem sl32_l (g o len cap l : Nat) (h1 : l ≤ len) (h3 : l < cap) (w : World) :
    (Instr.slice 32 (.slice (some ⟨g, o, none⟩) len cap) (some (.int .i64 l)) none none).run Try.prog w = .ok (.slice (some ⟨g, o + l, none⟩) (len - l) (cap - l)) w := by
  rw [run_slice_l w 32 (some ⟨g, o, none⟩) len cap el32 .i64 l (by omega) (by omega), sz32]
  simp only [Result.andThen, sliced, Int.toNat_natCast, Nat.mul_one]
  rw [if_neg (by omega)]
  simp only [Option.map_some, add_mk]

/-- What Text's first loop keeps. -/
def TextInv (w wr : World) (g p t N n : Nat) (f F : Nat → Nat) : Prop :=
  Row .u32 41 wr g p f ∧ n ≤ p ∧ (∀ j, j < n → f j < 4294967296) ∧ Trimmed f n ∧ num 4294967296 f n = N / 10 ^ (9 * t) ∧ Row .u8 5 wr (g + 1) (10 * p + 9) F ∧ 9 * t ≤ 10 * p + 9 ∧
    (∀ i, i < 9 * t → F (10 * p + 9 - 1 - i) = dig N i) ∧ Below g w wr

theorem TextInv.step {w wr w2 w3 : World} {g p t N m at' rest : Nat} {f F f3 F3 : Nat → Nat} (hi : TextInv w wr g p t N m f F) (hat : at' + 9 * (t + 1) = 10 * p + 9)
    (hs : ShortInv wr w2 g 0 m p m rest 1000000000 f f3) (hp : PutInv w2 w3 (g + 1) at' 9 (10 * p + 9) 9 rest F F3) (hg : g + 1 < wr.heap.size) :
    TextInv w w3 g p (t + 1) N (tlen f3 m) f3 F3 := by
  obtain ⟨h1, h2, h3, h4, h5, h6, h7, h8, h9⟩ := hi
  obtain ⟨s1, s2, s3, s4, s5, s6⟩ := hs
  obtain ⟨p1, p2, p3, p4⟩ := hp
  simp only [Nat.sub_self, Nat.add_zero, Nat.zero_add, Nat.zero_le, true_and, forall_const] at s4 s5 s6
  obtain ⟨e1, e2⟩ := div_mod_of s6 s1
  refine ⟨s2.wr (by omega) p2, Nat.le_trans (tlen_le m) h2, fun j hj => s5 j (Nat.lt_of_lt_of_le hj (tlen_le m)), tlen_trimmed m, ?_, p1, by omega, fun i hi => ?_, ?_⟩
  · rw [num_tlen, ← e1, h5, Nat.div_div_eq_div_mul, show (1000000000 : Nat) = 10 ^ 9 from by decide, ← Nat.pow_add]
    congr 2
  · by_cases hit : i < 9 * t
    · rw [p3 _ (by omega)]; exact h8 i hit
    · have h := p4 (i - 9 * t) (by omega)
      rw [show at' + (9 - 1 - (i - 9 * t)) = 10 * p + 9 - 1 - i from by omega] at h
      rw [h, ← e2, h5, show (1000000000 : Nat) = 10 ^ 9 from by decide, dig_mod _ _ _ (by omega), dig_div]
      congr 1
      omega
  · have hsz : wr.heap.size ≤ w2.heap.size := s3.size
    exact p2.below (s3.below h9 (by omega) (Nat.le_refl _)) (by omega) (by omega)

theorem text_room {p t N : Nat} (hN : N < 4294967296 ^ p) (hpos : 0 < N / 10 ^ (9 * t)) : 9 * t < 10 * p := by
  have h1 : 10 ^ (9 * t) ≤ N := by
    rcases Nat.lt_or_ge N (10 ^ (9 * t)) with h | h
    · rw [Nat.div_eq_of_lt h] at hpos; omega
    · exact h
  have h2 : (4294967296 : Nat) ^ p ≤ (10 ^ 10) ^ p := Nat.pow_le_pow_left (by decide) p
  rw [← Nat.pow_mul] at h2
  exact (Nat.pow_lt_pow_iff_right (by omega)).1 (Nat.lt_of_le_of_lt h1 (Nat.lt_of_lt_of_le hN h2))

set_option maxHeartbeats 2000000 in
theorem text_any (A : Option Addr) (n c : Nat) (f : Nat → Nat) (w : World) (ha : Rd .u32 w A n f) (hc : n ≤ c) (hn : n ≤ 1099511627776) (hf : ∀ j, j < n → f j < 4294967296) :
    Calls Try.prog 28 #[.slice A n c] w fun e w' => e = .returned (.string (decS (num 4294967296 f n))) ∧ Below w.heap.size w w' := by
  have T := fun hr' => trim_any A n c f w hr' hc (by omega)
  unfold TrimPost at T
  have hpn := tlen_le (f := f) n
  have HN := Lib.hid (num_tlen (B := 4294967296) (f := f) n)
  have HF := Lib.hid (tlen_lt_dig hf)
  have HT := Lib.hid (tlen_trimmed (f := f) n)
  have DT := Lib.hid T
  clear T hf
  generalize hNN : num 4294967296 f n = N at *
  clear hNN
  generalize tlen f n = p at *
  by_cases hp : p = 0
  · subst hp
    have hz : N = 0 := by rw [← HN.out]; rfl
    subst hz
    have hg1 : (((0 : Nat) : Int) == 0) = true := by decide
    go_enter Try.func28, Try.ntmps28
    go_wp2_with fail
    refine (DT.out ha).mono ?_
    rintro e w1 ⟨rfl, f2, hrow, hf2, hbl, hs⟩
    clear hf2
    go_wp2
    go_ret
    exact ⟨rfl, hbl⟩
  · have hg1 : ((p : Int) == 0) = false := by rw [beq_eq_false_iff_ne]; omega
    have hNl : Hid (N < 4294967296 ^ p) := by
      show _ < _
      rw [← HN.out]; exact num_lt (by omega) p HF.out
    have hN0 : Hid (0 < N) := by
      show 0 < N
      rw [← HN.out]; exact HT.out.pos (by omega) (by omega)
    go_enter Try.func28, Try.ntmps28
    go_wp2_with fail
    refine (DT.out ha).mono ?_
    rintro e w1 ⟨rfl, f2, hrow, hf2, hbl, hs⟩
    have HI : Hid (num 4294967296 f2 p = N / 10 ^ (9 * 0)) := by
      show _ = _
      rw [num_congr (f' := f) p hf2, HN.out]; simp
    have HI2 : Hid (∀ j, j < p → f2 j < 4294967296) := fun j hj => by rw [hf2 j hj]; exact HF.out j hj
    have HI3 : Hid (Trimmed f2 p) := by
      rcases HT.out with h0 | h0
      · exact .inl h0
      · exact .inr (by rw [hf2 _ (by omega)]; exact h0)
    clear hf2
    go_wp2_with (at_make; refine wpList_make_row rfl _ _ 32 rfl .u8 5 Try.underlying32 1 u8_info (by omega) .i64 .i64 _ _ (10 * p + 9) rfl rfl (by omega) (by omega) (by omega) ?_; intro w2 hrow2 hb2 hs2)
    rw [hs] at hrow2 hb2 hs2
    have hrow' := hrow.below hb2 (by omega)
    have hbl2 : Below w.heap.size w w2 := hbl.trans (hb2.mono (by omega))
    have HR2 := Lib.hid hrow2
    have HR1 := Lib.hid hrow'
    have HB := Lib.hid hbl2
    have hsz2 : w.heap.size + 1 < w2.heap.size := by omega
    clear hrow hrow2 hrow' hbl hb2 hbl2 hs hs2
    go_loopw [0, 4, 5] (fun v0 v4 _ wr => ∃ t m f F a, a + 9 * t = 10 * p + 9 ∧ v0 = .slice (some ⟨w.heap.size, 0, none⟩) m p ∧ v4 = .int .i64 (a : Nat) ∧ w2.heap.size ≤ wr.heap.size ∧ TextInv w wr w.heap.size p t N m f F) (fun _ v4 _ _ => (intOf v4).toNat)
    case atStart => exact ⟨0, p, f2, _, 10 * p + 9, by omega, rfl, by go_num, Nat.le_refl _, HR1.out, Nat.le_refl _, HI2.out, HI3.out, HI.out, HR2.out, by omega, fun i hi => absurd hi (by omega), HB.out⟩
    case round =>
      obtain ⟨t, m, f, F, a, hat, rfl, rfl, hws, hinv⟩ := hrel
      clear HR2 HR1 HB HI HI2 HI3
      have hmp : m ≤ p := hinv.2.1
      by_cases hm : 0 < m
      · have hpos := hinv.2.2.2.1.pos (B := 4294967296) (by omega) hm
        rw [hinv.2.2.2.2.1] at hpos
        have hroom := text_room hNl.out hpos
        have DS : Hid (Calls Try.prog 50 #[.slice (some ⟨w.heap.size, 0, none⟩) m p, .int .u32 1000000000] wr fun e w' => ∃ rest f', e = .returned (.int .u32 (rest : Nat)) ∧ ShortInv wr w' w.heap.size 0 m p m rest 1000000000 f f') :=
          divShort_any w.heap.size 0 m p p 1000000000 f wr hinv.1 (by omega) (by omega) (by omega) (fun j hj => by rw [Nat.zero_add]; exact hinv.2.2.1 j hj) (by omega)
        have HI := Lib.hid hinv
        clear hinv hpos
        go_wp2_with fail
        refine DS.out.mono ?_
        rintro e w3 ⟨rest, f3, rfl, hsi⟩
        have hrest : rest < 1000000000 := hsi.1
        have hrd := hsi.2.1.rd0 hmp
        have HS := Lib.hid hsi
        clear hsi DS
        go_wp2_with fail
        refine (cut_any _ m p _ _ hrd hmp (by omega)).mono ?_
        rintro e w' ⟨rfl, rfl⟩
        have hrow8 := HI.out.2.2.2.2.2.1.wr (g' := w.heap.size) (by omega) HS.out.2.2.1
        have DP := Lib.hid (putDigits_any (w.heap.size + 1) (a - 9) 9 (10 * p + 9 - (a - 9)) (10 * p + 9) rest F w3 hrow8 (by omega) (by omega) (by omega))
        clear hrow8 hrd
        go_wp2_with fail
        have e9 : a - (a - 9) = 9 := by omega
        rw [e9]
        refine DP.out.mono ?_
        rintro e w4 ⟨F4, rfl, hput⟩
        have HT2 := Lib.hid (HI.out.step (at' := a - 9) (by omega) HS.out hput (by omega))
        have hws2 : w2.heap.size ≤ w4.heap.size := by
          have h1 := HS.out.2.2.1.size
          have h2 := hput.2.1.size
          omega
        clear hput HI HS DP e9
        go_wp2
        go_roundw
        case rel => exact ⟨t + 1, tlen f3 m, f3, F4, a - 9, by omega, rfl, by go_num, hws2, HT2.out⟩
        case measure => simp [intOf]; omega
      · obtain rfl : m = 0 := by omega
        obtain ⟨i1, i2, i3, i4, i5, i6, i7, i8, i9⟩ := hinv
        have hNt : N < 10 ^ (9 * t) := by
          have h0 : N / 10 ^ (9 * t) = 0 := i5.symm
          have hp10 : 0 < 10 ^ (9 * t) := Nat.pow_pos (by omega)
          rcases Nat.div_eq_zero_iff.1 h0 with h | h
          · omega
          · exact h
        have HNt := Lib.hid hNt
        have HI8 : Hid (∀ j, a ≤ j → j < 10 * p + 9 → F j = dig N (10 * p + 9 - 1 - j)) := fun j h1 h2 => by
          have := i8 (10 * p + 9 - 1 - j) (by omega)
          rwa [show 10 * p + 9 - 1 - (10 * p + 9 - 1 - j) = j from by omega] at this
        clear i1 i2 i3 i4 i5 i8 hNt
        go_wp2
        go_loop [4] (fun v4 => ∃ b, a ≤ b ∧ b < 10 * p + 9 ∧ v4 = .int .i64 (b : Nat) ∧ N < 10 ^ (10 * p + 9 - b)) (fun v4 => 10 * p + 9 - (intOf v4).toNat)
        case atStart => exact ⟨a, Nat.le_refl _, by
          have h0 := hN0.out
          have h1 := HNt.out
          rcases Nat.eq_zero_or_pos t with ht | ht
          · subst ht; simp at h1; omega
          · omega, rfl, by rw [show 10 * p + 9 - a = 9 * t from by omega]; exact HNt.out⟩
        case round =>
          obtain ⟨b, hab, hbp, rfl, hNb⟩ := hrel
          have hcell := i6.cell (j := b) hbp
          have hd : F b = dig N (10 * p + 9 - b - 1) := by rw [HI8.out b hab hbp]; congr 1; omega
          have htop := top_digit (N := N) (k := 10 * p + 9 - b) (by omega) hNb
          rw [← hd] at htop
          by_cases hz : F b = 48
          · have hb1 : b + 1 < 10 * p + 9 := by
              have h1 := htop.1 hz
              have h0 := hN0.out
              rcases Nat.lt_or_ge (b + 1) (10 * p + 9) with h | h
              · exact h
              · rw [show 10 * p + 9 - b - 1 = 0 from by omega] at h1
                simp at h1
                omega
            have HL : Hid (N < 10 ^ (10 * p + 9 - (b + 1))) := by
              show _ < _
              rw [show 10 * p + 9 - (b + 1) = 10 * p + 9 - b - 1 from by omega]; exact htop.1 hz
            rw [hz] at hcell
            clear htop hd hNb hz
            go_wp2
            go_round
            case rel => exact ⟨b + 1, by omega, hb1, by go_num, HL.out⟩
            case measure => simp [intOf]; omega
          · have hg2 : ((F b : Int) == 48) = false := by rw [beq_eq_false_iff_ne]; omega
            have HS : Hid (strF (10 * p + 9 - b) (fun j => F (b + j)) = decS N) := by
              refine strF_dec (by omega) ?_ hNb fun j hj => ?_
              · rcases Nat.lt_or_ge N (10 ^ (10 * p + 9 - b - 1)) with h | h
                · exact absurd (htop.2 h) hz
                · exact h
              · rw [HI8.out _ (by omega) (by omega)]; congr 1; omega
            have hconv := run_conv_rd (P := Try.prog) wr 32 5 under32 under5 (w.heap.size + 1) b (10 * p + 9 - b) (10 * p + 9 - b) (fun j => F (b + j)) (i6.rd (by omega)) 9 under9
            rw [HS.out] at hconv
            clear htop hd hNb hz HS HI8 HNt hN0 hNl
            go_wp2
            go_ret
            exact ⟨rfl, i9⟩
end Go.Proofs.Ytonjecddhbckgaa
