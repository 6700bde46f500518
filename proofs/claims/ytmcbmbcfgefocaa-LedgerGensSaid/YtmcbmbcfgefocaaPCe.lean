/- Contracts: shift, fill of the sum's table. -/
import Derived.Test.YtmcbmbcfgefocaaPCm
import Derived.Laws.BitsAllLaws
import Derived.RegionTactic
import Derived.ChangeAlike
import Derived.IntWalk
import Derived.Lib.SlBytesConst
import Derived.Lib.SliceRun
namespace Go.Proofs.Ytmcbmbcfgefocaa
open Go.RowKit

theorem u32_and_one (x : Nat) (h : x < 4294967296) : bits BinOp.and IntKind.u32 (x : Int) 1 = ((x % 2 : Nat) : Int) := by
  have := u32_and_nat x 1 h (by decide)
  rw [Nat.and_one_is_mod] at this
  exact this
theorem u32_poly (x : Nat) (h : x < 4294967296) : bits BinOp.xor IntKind.u32 (x : Int) 3988292384 = ((x ^^^ 3988292384 : Nat) : Int) := u32_xor_nat x 3988292384 h (by decide)

set_option maxRecDepth 100000 in
set_option maxHeartbeats 400000 in
theorem shift_any (x : Nat) (w : World) (h : x < 4294967296) :
    Calls Try.prog 91 #[.int .u32 (x : Nat)] w fun e w' => e = .returned (.int .u32 (sh x : Nat)) ∧ w = w' := by
  have hb := u32_and_one x h
  have hx : bits BinOp.xor IntKind.u32 ((x : Int) / 2) 3988292384 = ((x / 2 ^^^ 3988292384 : Nat) : Int) := u32_poly (x / 2) (by omega)
  rcases Nat.mod_two_eq_zero_or_one x with h0 | h0
  · rw [h0] at hb
    have e : sh x = x / 2 := by unfold sh; rw [if_neg (by omega), Nat.xor_zero]
    have H0 := Lib.hid h0
    have HE := Lib.hid e
    clear h0 e
    go_enter Try.func91, Try.ntmps91
    go_wp2
    go_ret
    rw [HE.out]
    exact ⟨by simp, rfl⟩
  · rw [h0] at hb
    have e : sh x = x / 2 ^^^ 3988292384 := by unfold sh; rw [if_pos h0]
    have H0 := Lib.hid h0
    have HE := Lib.hid e
    clear h0 e
    go_enter Try.func91, Try.ntmps91
    go_wp2
    go_ret
    rw [HE.out]
    exact ⟨by simp, rfl⟩

end Go.Proofs.Ytmcbmbcfgefocaa

/- Contract: fill of the sum's table. -/
namespace Go.Proofs.Ytmcbmbcfgefocaa
open Go.RowKit

/-- 1, 2, .., 256. -/
def IsDbl (D : Nat) : Prop := D = 1 ∨ D = 2 ∨ D = 4 ∨ D = 8 ∨ D = 16 ∨ D = 32 ∨ D = 64 ∨ D = 128 ∨ D = 256
def Tab (f : Nat → Nat) (D : Nat) : Prop := ∀ j, j < 256 → j % D = 0 → f j = shn 8 j
def Tab2 (f : Nat → Nat) (D h : Nat) : Prop := Tab f D ∧ ∀ j, j < h → j % (D / 2) = 0 → f j = shn 8 j
def Sgl (x D : Nat) : Prop := x < 4294967296 ∧ (1 < D → sh x = shn 8 (D / 2))
theorem shn_sh (x : Nat) : sh (shn 8 x) = shn 8 (sh x) := by
  have h1 := shn_add 8 1 x
  have h2 := shn_add 1 8 x
  rw [show shn 1 (shn 8 x) = sh (shn 8 x) from rfl] at h1
  rw [show shn 1 x = sh x from rfl] at h2
  rw [← h1, ← h2]
theorem IsDbl.half {D : Nat} (h : IsDbl D) (h1 : 1 < D) : IsDbl (D / 2) := by
  unfold IsDbl at *
  omega
theorem Sgl.first : Sgl 1 256 := ⟨by decide, fun _ => by decide⟩
theorem Sgl.next {x D : Nat} (hd : IsDbl D) (h1 : 1 < D) (h : Sgl x D) : Sgl (sh x) (D / 2) := by
  refine ⟨sh_lt h.1, fun h2 => ?_⟩
  rw [h.2 h1, shn_sh]
  have : D / 2 = 2 * (D / 2 / 2) := by
    unfold IsDbl at hd
    omega
  rw [this, sh_dbl]
  congr 1
  omega
theorem Tab.first {f : Nat → Nat} (h : f 0 = 0) : Tab f 256 := fun j hj hm => by
  obtain rfl : j = 0 := by omega
  rw [h, shn_zero]
theorem Tab.second {f : Nat → Nat} {D : Nat} (h : Tab f D) : Tab2 f D 0 := ⟨h, fun j hj => absurd hj (by omega)⟩
theorem Tab2.last {f : Nat → Nat} {D h : Nat} (hh : 256 ≤ h) (ht : Tab2 f D h) : Tab f (D / 2) := fun j hj hm => ht.2 j (by omega) hm
theorem dbl_in {D h : Nat} (hd : IsDbl D) (h1 : 1 < D) (hh : h < 256) (hm : h % D = 0) : h + D / 2 < 256 ∧ h + D ≤ 256 ∧ (h + D) % D = 0 ∧ 0 < D / 2 ∧ 2 * (D / 2) = D := by
  refine ⟨?_, ?_, by rw [Nat.add_mod_right]; exact hm, by omega, ?_⟩
  all_goals (rcases hd with rfl | rfl | rfl | rfl | rfl | rfl | rfl | rfl | rfl <;> omega)
theorem Tab2.step {f : Nat → Nat} {D h x : Nat} (hd : IsDbl D) (h1 : 1 < D) (hh : h < 256) (hm : h % D = 0) (hx : x = shn 8 (D / 2)) (ht : Tab2 f D h) : Tab2 (upd f (h + D / 2) (f h ^^^ x)) D (h + D) := by
  have e : f h ^^^ x = shn 8 (h + D / 2) := by
    rw [ht.1 h hh hm, hx, ← shn_xor]
    congr 1
    have : ∃ k, D = 2 ^ k := by
      rcases hd with rfl | rfl | rfl | rfl | rfl | rfl | rfl | rfl | rfl
      · exact ⟨0, rfl⟩
      · exact ⟨1, rfl⟩
      · exact ⟨2, rfl⟩
      · exact ⟨3, rfl⟩
      · exact ⟨4, rfl⟩
      · exact ⟨5, rfl⟩
      · exact ⟨6, rfl⟩
      · exact ⟨7, rfl⟩
      · exact ⟨8, rfl⟩
    obtain ⟨k, hk⟩ := this
    have h2 := add_xor (a := D / 2) (k := k) (h / D) (by omega)
    rw [← hk] at h2
    have h3 : h / D * D = h := by have := Nat.div_add_mod h D; rw [hm, Nat.mul_comm] at this; omega
    rw [h3] at h2
    rw [Nat.xor_comm, ← h2, Nat.add_comm]
  constructor
  · intro j hj hj0
    have : j ≠ h + D / 2 := by
      rcases hd with rfl | rfl | rfl | rfl | rfl | rfl | rfl | rfl | rfl <;> omega
    rw [upd_ne _ _ _ this]
    exact ht.1 j hj hj0
  · intro j hj hj0
    by_cases hj2 : j = h + D / 2
    · subst hj2; rw [upd_same, e]
    · rw [upd_ne _ _ _ hj2]
      by_cases hlt : j < h
      · exact ht.2 j hlt hj0
      · have : j = h ∨ 256 ≤ j := by
          rcases hd with rfl | rfl | rfl | rfl | rfl | rfl | rfl | rfl | rfl <;> omega
        rcases this with rfl | hge
        · exact ht.1 j hh hm
        · rcases hd with rfl | rfl | rfl | rfl | rfl | rfl | rfl | rfl | rfl <;> omega
theorem Tab2.low {f : Nat → Nat} {D h : Nat} (hh : h < 256) (hm : h % D = 0) (ht : Tab2 f D h) : f h < 4294967296 := by
  rw [ht.1 h hh hm]
  exact shn_lt 8 (by omega)

def FillPost (w w' : World) (g : Nat) (e : Ending) : Prop :=
  e = .returned (.tuple #[]) ∧ Wr g w w' ∧ ∃ f, Row .u32 131 w' g 256 f ∧ ∀ j, j < 256 → f j = shn 8 j

set_option maxRecDepth 100000 in
set_option maxHeartbeats 1000000 in
theorem fill_any (g : Nat) (f : Nat → Nat) (w : World) (hr : Row .u32 131 w g 256 f) (h0 : f 0 = 0) :
    Calls Try.prog 86 #[.pointer (some ⟨g, 0, none⟩)] w fun e w' => FillPost w w' g e := by
  have HT0 := Lib.hid (Tab.first h0)
  clear h0
  go_enter Try.func86, Try.ntmps86
  go_wp2
  go_loopw [2, 3] (fun s b wr => ∃ (D x : Nat) (f : Nat → Nat), IsDbl D ∧ b = .int .i64 ((D / 2 : Nat) : Int) ∧ s = .int .u32 (x : Nat) ∧ Sgl x D ∧ Tab f D ∧ Row .u32 131 wr g 256 f ∧ Wr g w wr) (fun _ b _ => (intOf b).toNat)
  case atStart => exact ⟨256, 1, f, by unfold IsDbl; omega, rfl, rfl, Sgl.first, HT0.out, hr, Wr.refl⟩
  case round =>
    obtain ⟨D, x, f1, hd, rfl, rfl, hsg, htab, hr1, hw1⟩ := hrel
    have hD0 : 0 < D ∧ D ≤ 256 := by unfold IsDbl at hd; omega
    have HD := Lib.hid hd
    have HT := Lib.hid htab
    have HS := Lib.hid hsg
    have HR1 := Lib.hid hr1
    have HW1 := Lib.hid hw1
    have HR := Lib.hid hr
    clear hd htab hsg hr1 hw1 hr
    by_cases h1 : 1 < D
    · have hB : 0 < D / 2 := by omega
      have hB1 : D / 2 ≤ 128 := by omega
      generalize hBd : D / 2 = B at *
      have HB := Lib.hid hBd
      clear hBd
      go_wp2_with (go_at_call 91; refine (shift_any _ _ HS.out.1).mono ?_; rintro e w' ⟨rfl, rfl⟩)
      obtain ⟨wo, rfl⟩ : ∃ wo : World, wo = wr := ⟨_, rfl⟩
      go_loopw [4] (fun v wq => ∃ (h : Nat) (f2 : Nat → Nat), h ≤ 256 ∧ h % D = 0 ∧ v = .int .i64 (h : Nat) ∧ Tab2 f2 D h ∧ Row .u32 131 wq g 256 f2 ∧ Wr g wo wq) (fun v _ => 256 - (intOf v).toNat)
      case atStart => exact ⟨0, f1, Nat.zero_le _, Nat.zero_mod _, rfl, HT.out.second, HR1.out, Wr.refl⟩
      case round =>
        obtain ⟨h, f2, hh, hm, rfl, ht2, hr2, hw2⟩ := hrel
        by_cases hlt : h < 256
        · have hin := dbl_in HD.out h1 hlt hm
          rw [HB.out] at hin
          obtain ⟨i1, i2, i3, i4, i5⟩ := hin
          have hsx : sh x = shn 8 B := by rw [HS.out.2 h1, HB.out]
          have hst := Tab2.step (x := sh x) HD.out h1 hlt hm (by rw [HB.out]; exact hsx) ht2
          rw [HB.out] at hst
          have c1 : wr.cell? ⟨g, h, none⟩ = some (.int .u32 (f2 h : Nat)) := hr2.cell hlt
          have c2 : wr.cell? ⟨g, h + B, none⟩ = some (.int .u32 (f2 (h + B) : Nat)) := hr2.cell i1
          have c3 : wr.frozen? ⟨g, h + B, none⟩ = false := hr2.frozen _
          have hx : bits BinOp.xor IntKind.u32 (f2 h : Nat) (sh x : Nat) = ((f2 h ^^^ sh x : Nat) : Int) := u32_xor_nat _ _ (ht2.low hlt hm) (sh_lt HS.out.1)
          have hr3 := hr2.set_ (h + B) (f2 h ^^^ sh x)
          have hw3 := hw2.setCell (h + B) (.int .u32 ((f2 h ^^^ sh x : Nat) : Int))
          have b1 : (0 : Int) ≤ (h : Int) := by omega
          have b2 : (h : Int) < 256 := by omega
          have b3 : (0 : Int) ≤ (h : Int) + (B : Int) := by omega
          have b4 : (h : Int) + (B : Int) < 256 := by omega
          have b5 : ((h : Int) + (B : Int)).toNat = h + B := by omega
          have HST := Lib.hid hst
          have H3 := Lib.hid hr3
          have HW3 := Lib.hid hw3
          have HM := Lib.hid i3
          have HI5 := Lib.hid i5
          clear hm hst hr3 hw3 hsx ht2 i3 i5 hr2 hw2
          go_wp2
          go_region
          all_goals
            go_wp2
            go_roundw
            case rel => exact ⟨h + D, upd f2 (h + B) (f2 h ^^^ sh x), i2, HM.out, by have e5 := HI5.out; congr 1; omega, HST.out, H3.out.drew, HW3.out.drew⟩
            case measure => have e5 := HI5.out; simp [intOf]; omega
        · obtain rfl : h = 256 := by omega
          have HA := Lib.hid (show IsDbl B ∧ Sgl (sh x) B ∧ Tab f2 B from by
            have q1 := HD.out.half h1
            have q2 := HS.out.next HD.out h1
            have q3 := ht2.last (Nat.le_refl _)
            rw [HB.out] at q1 q2 q3
            exact ⟨q1, q2, q3⟩)
          have HR2 := Lib.hid hr2
          have HW2 := Lib.hid hw2
          clear hm ht2 hr2 hw2 hlt hh
          go_wp2
          go_roundw
          case rel => exact ⟨B, sh x, f2, HA.out.1, by go_num, rfl, HA.out.2.1, HA.out.2.2, HR2.out, HW1.out.trans HW2.out⟩
          case measure => simp [intOf]; omega
    · obtain rfl : D = 1 := by omega
      go_wp2
      go_end0
      exact ⟨rfl, HW1.out, f1, HR1.out, fun j hj => HT.out j hj (Nat.mod_one _)⟩
end Go.Proofs.Ytmcbmbcfgefocaa

/- Contracts: both sides' Sum. -/
namespace Go.Proofs.Ytmcbmbcfgefocaa
open Go.RowKit

/-- n bytes, f. -/
def Byt (w : World) (v : Value) (n : Nat) (f : Nat → Nat) : Prop := ∃ A c, v = .slice A n c ∧ n ≤ c ∧ Rd .u8 w A n f ∧ ∀ j, j < n → f j < 256
theorem Byt.below {w w' : World} {v : Value} {n : Nat} {f : Nat → Nat} (h : Byt w v n f) (hb : Below w.heap.size w w') : Byt w' v n f := by
  obtain ⟨A, c, h1, h2, h3, h4⟩ := h
  exact ⟨A, c, h1, h2, h3.below hb, h4⟩

def zeros : Array Value := Array.replicate 256 (.int .u32 0)
theorem zero_tab (w : World) : Sem.run Try.prog (zeroValue 131) w = .ok (.agg zeros) w := by kernel_rfl
theorem zeros_row (w : World) : Row .u32 131 (w.alloc (.cells zeros 131)) w.heap.size 256 (fun _ => 0) :=
  ⟨_, heap_alloc_new w _, by simp [zeros], fun j hj => by simp [zeros, hj]⟩
set_option maxRecDepth 100000 in
set_option maxHeartbeats 1000000 in
theorem sum_any (A : Option Addr) (n c : Nat) (f : Nat → Nat) (w : World) (hr : Rd .u8 w A n f) (hf : ∀ j, j < n → f j < 256) (hn : n ≤ 4611686018427387904) :
    Calls Try.prog 82 #[.slice A n c] w fun e w' => e = .returned (.int .u32 (crcN f n : Nat)) ∧ Below w.heap.size w w' := by
  have HR := Lib.hid hr
  have HF := Lib.hid hf
  clear hr hf
  have hz := zero_tab w
  go_enter Try.func82, Try.ntmps82
  go_wp2_with (go_at_call 86; refine (fill_any _ _ _ (zeros_row w) rfl).mono ?_; rintro e w1 ⟨rfl, hw1, ft, hrow, htab⟩; have HW1 := Lib.hid (show Below w.heap.size w w1 from hw1.below ((Below.refl _ _).alloc (Nat.le_refl _) _) (by simp) (Nat.le_refl _)); have HRW := Lib.hid hrow; have HTB := Lib.hid htab; clear hw1 hrow htab)
  clear hz
  go_loop [10, 4] (fun v s => ∃ k : Nat, k ≤ n ∧ v = .int .i64 (k : Nat) ∧ s = .int .u32 (crcS f k : Nat)) (fun v _ => n - (intOf v).toNat)
  case atStart => exact ⟨0, Nat.zero_le _, rfl, rfl⟩
  case round =>
    obtain ⟨k, hk, rfl, rfl⟩ := hrel
    have hs : crcS f k < 4294967296 := crcS_lt k (fun j hj => HF.out j (by omega))
    have hc : crcS f (k + 1) = shn 8 (crcS f k ^^^ f k) := rfl
    have hE : crcN f k = 4294967295 ^^^ crcS f k := rfl
    generalize crcS f k = s at *
    by_cases hlt : k < n
    · have hfk := HF.out k hlt
      have hcs := crc_step s (f k)
      obtain ⟨ad, rfl, hcell⟩ := (HR.out.below HW1.out) k hlt
      have hix : (s % 256) ^^^ f k < 256 := byte_xor (by omega) hfk
      have hx1 : bits BinOp.xor IntKind.u8 ((s : Int) % 256) (f k : Nat) = (((s % 256) ^^^ f k : Nat) : Int) := by
        have := u8_xor_nat (s % 256) (f k) (by omega) hfk
        rw [← this]
        rfl
      have ht := HTB.out _ hix
      have hx2 : bits BinOp.xor IntKind.u32 ((s : Int) / 256) (shn 8 ((s % 256) ^^^ f k) : Nat) = ((shn 8 (s ^^^ f k) : Nat) : Int) := by
        have := u32_xor_nat (s / 256) (shn 8 ((s % 256) ^^^ f k)) (by omega) (shn_lt 8 (by omega))
        rw [hcs] at this
        rw [← this]
        rfl
      have hcl := HRW.out.cell hix
      rw [ht] at hcl
      generalize (s % 256) ^^^ f k = ix at *
      have HC := Lib.hid hc
      have i1 : (0 : Int) ≤ (ix : Int) := by omega
      have i2 : (ix : Int) < 256 := by omega
      have hfk' : (f k : Int) < 256 := by omega
      clear hc hcs ht hix
      clear hE
      go_wp2
      go_round
      case rel => exact ⟨k + 1, by omega, by go_num, by rw [HC.out]⟩
      case measure => simp [intOf]; omega
    · obtain rfl : k = n := by omega
      have hx : bits BinOp.xor IntKind.u32 IntKind.u32.max (s : Int) = ((4294967295 ^^^ s : Nat) : Int) := u32_xor_nat 4294967295 s (by omega) hs
      have HE := Lib.hid hE
      clear hc hE
      go_wp2
      go_ret
      exact ⟨by rw [HE.out]; rfl, HW1.out⟩

end Go.Proofs.Ytmcbmbcfgefocaa

/- Contracts: the document's Rows; ahead, bytes.Clone, both sides' Seal. -/
namespace Go.Proofs.Ytmcbmbcfgefocaa
open Go.RowKit

theorem Below.drewN_ {w wr : World} {B : Nat} (h : Below B w wr) (n : Nat) : Below B w (wr.drewN n) := ⟨h.os, h.tape, h.output, h.size, h.block⟩
theorem Below.drew_ {w wr : World} {B : Nat} (h : Below B w wr) : Below B w wr.drew := ⟨h.os, h.tape, h.output, h.size, h.block⟩
theorem row_new {K : IntKind} {t : TypeId} (w : World) (cs : Array Value) (n : Nat) (f : Nat → Nat) (hn : cs.size = n) (h : ∀ j, j < n → cs[j]? = some (.int K (f j : Nat))) : Row K t (w.alloc (.cells cs t)) w.heap.size n f :=
  ⟨cs, heap_alloc_new w _, hn, h⟩
theorem row_one {K : IntKind} {t : TypeId} (w : World) (x : Nat) : Row K t (w.alloc (.cells #[.int K (x : Nat)] t)) w.heap.size 1 (fun _ => x) :=
  row_new w _ 1 _ rfl fun j hj => by
    obtain rfl : j = 0 := by omega
    rfl
theorem below_new (w : World) (o : Obj) : Below w.heap.size w (w.alloc o) := (Below.refl _ _).alloc (Nat.le_refl _) _
theorem u8_info : (Try.prog.info? 5).map (fun i => (i.zero, i.size, i.bytes)) = some (some (.int .u8 0), 1, 1) := by kernel_rfl

theorem num4_lt {f : Nat → Nat} {k : Nat} (h : ∀ j, j < 4 → f j < 256) (hk : k ≤ 4) : num 256 f k < 4294967296 := by
  have := num_lt' k (fun j hj => h j (by omega))
  have h2 : 2 ^ (8 * k) ≤ 2 ^ 32 := Nat.pow_le_pow_right (by decide) (by omega)
  omega
theorem or_step {f : Nat → Nat} {k : Nat} (h : ∀ j, j < k → f j < 256) : num 256 f k ||| f k * 2 ^ (8 * k) = num 256 f (k + 1) := by
  rw [num, p256, Nat.add_comm, Nat.mul_comm, Nat.two_pow_add_eq_or_of_lt (num_lt' k h), Nat.or_comm]

set_option maxRecDepth 20000 in
set_option maxHeartbeats 1000000 in
theorem ahead_any (A : Option Addr) (n c : Nat) (f : Nat → Nat) (w : World) (hr : Rd .u8 w A n f) (hf : ∀ j, j < n → f j < 256) (hn : 4 ≤ n) :
    Calls Try.prog 84 #[.slice A n c] w fun e w' => e = .returned (.int .u32 (num 256 f 4 : Nat)) ∧ w = w' := by
  have HR := Lib.hid hr
  have HF := Lib.hid hf
  clear hr hf
  go_enter Try.func84, Try.ntmps84
  go_wp2
  go_loop [5, 3] (fun v s => ∃ k : Nat, k ≤ 4 ∧ v = .int .i64 (k : Nat) ∧ s = .int .u32 (num 256 f k : Nat)) (fun v _ => 4 - (intOf v).toNat)
  case atStart => exact ⟨0, by omega, rfl, rfl⟩
  case round =>
    obtain ⟨k, hk, rfl, rfl⟩ := hrel
    by_cases hlt : k < 4
    · have hfk := HF.out k (by omega)
      obtain ⟨ad, rfl, hcell⟩ := HR.out k (by omega)
      have h1 : num 256 f k < 4294967296 := num4_lt (fun j hj => HF.out j (by omega)) hk
      have h2 := or_step (f := f) (k := k) (fun j hj => HF.out j (by omega))
      have h3 : num 256 f (k + 1) < 4294967296 := num4_lt (fun j hj => HF.out j (by omega)) (by omega)
      have h4 : f k * 2 ^ (8 * k) < 4294967296 := by rw [num, p256] at h3; omega
      have h5 : bits BinOp.or IntKind.u32 (num 256 f k : Nat) (f k * 2 ^ (8 * k) : Nat) = (num 256 f (k + 1) : Nat) := by rw [u32_or_nat _ _ h1 h4, h2]
      have H5 := Lib.hid h5
      have H3 := Lib.hid h3
      clear h1 h2 h3 h4 h5
      generalize num 256 f k = z at *
      generalize hz' : num 256 f (k + 1) = z' at *
      have HZ := Lib.hid hz'
      clear hz'
      generalize f k = y at *
      have hk4 : k = 0 ∨ k = 1 ∨ k = 2 ∨ k = 3 := by omega
      have hfk' : (y : Int) < 256 := by omega
      rcases hk4 with rfl | rfl | rfl | rfl
      · have hc : w.cell? ad = some (.int .u8 (y : Nat)) := hcell
        clear hcell
        go_wp2
        go_round
        case rel => exact ⟨1, by omega, rfl, by rw [HZ.out]; exact congrArg (Value.int .u32) (by have := H5.out; simpa using this)⟩
        case measure => simp [intOf]
      · have hc : w.cell? ⟨ad.block, ad.off + 1, none⟩ = some (.int .u8 (y : Nat)) := hcell
        clear hcell
        go_wp2
        go_round
        case rel => exact ⟨2, by omega, rfl, by rw [HZ.out]; exact congrArg (Value.int .u32) (by have := H5.out; simpa using this)⟩
        case measure => simp [intOf]
      · have hc : w.cell? ⟨ad.block, ad.off + 2, none⟩ = some (.int .u8 (y : Nat)) := hcell
        clear hcell
        go_wp2
        go_round
        case rel => exact ⟨3, by omega, rfl, by rw [HZ.out]; exact congrArg (Value.int .u32) (by have := H5.out; simpa using this)⟩
        case measure => simp [intOf]
      · have hc : w.cell? ⟨ad.block, ad.off + 3, none⟩ = some (.int .u8 (y : Nat)) := hcell
        clear hcell
        go_wp2
        go_round
        case rel => exact ⟨4, by omega, rfl, by rw [HZ.out]; exact congrArg (Value.int .u32) (by have := H5.out; simpa using this)⟩
        case measure => simp [intOf]
    · obtain rfl : k = 4 := by omega
      go_wp2
      go_ret
      exact ⟨rfl, rfl⟩

/-- The block of a row is one of bytes. -/
def Typ8 (w : World) (v : Value) : Prop := ∀ k, v.ownBlock = some k → ∃ cs m, w.heap[k]? = some (.cells cs 5 m)
theorem Typ8.below {w w' : World} {v : Value} (h : Typ8 w v) (hb : Below w.heap.size w w') : Typ8 w' v := fun k hk => by
  obtain ⟨cs, m, h1⟩ := h k hk
  exact ⟨cs, m, (hb.block k (Array.getElem?_eq_some_iff.1 h1).1).trans h1⟩
theorem Typ8.none {w : World} {n c : Nat} : Typ8 w (.slice none n c) := fun k hk => by cases hk
theorem Typ8.part {w : World} {a b : Addr} {n c n' c' : Nat} (h : Typ8 w (.slice (some a) n c)) (e : b.block = a.block) : Typ8 w (.slice (some b) n' c') := fun k hk => h k (by
  have hk : some b.block = some k := hk
  show some a.block = some k
  rw [← e]; exact hk)
theorem own_typ8 {w : World} {base n : Nat} {v : Value} {f : Nat → Nat} (h : Own .u8 5 w base v n f) : Typ8 w v := fun k hk => by
  rcases h.2 with ⟨rfl, _⟩ | ⟨g, c, cur, rfl, _, hh, _⟩
  · cases hk
  · injection hk with hk
    subst hk
    exact ⟨cur, (0, 0), hh⟩
def ClonePost (w w' : World) (e : Ending) (n : Nat) (f : Nat → Nat) : Prop := ∃ v, e = .returned v ∧ Byt w' v n f ∧ Below w.heap.size w w' ∧ Typ8 w' v
theorem own_byt {w : World} {base n : Nat} {v : Value} {f : Nat → Nat} {t : TypeId} (h : Own .u8 t w base v n f) (hf : ∀ j, j < n → f j < 256) : Byt w v n f := by
  rcases h.form with ⟨rfl, rfl⟩ | ⟨g, c, rfl, _, hc⟩
  · exact ⟨none, 0, rfl, Nat.le_refl _, Rd.zero, hf⟩
  · exact ⟨_, c, rfl, hc, h.rd_, hf⟩
theorem own_none8 (w : World) (f : Nat → Nat) : Own .u8 5 (w.alloc (.cells #[] 5)) w.heap.size (.slice (some ⟨w.heap.size, 0, none⟩) 0 0) 0 f :=
  World.ownsRow_lit w _ 0 (Nat.le_refl _) (by simp only [maxLen]; omega) rfl

set_option maxRecDepth 100000 in
set_option maxHeartbeats 1000000 in
theorem clone_any (ad : Addr) (n c : Nat) (f : Nat → Nat) (w : World) (hr : Rd .u8 w (some ad) n f) (hf : ∀ j, j < n → f j < 256) (hn : n ≤ 1000000) :
    Calls Try.prog 39 #[.slice (some ad) n c] w fun e w' => ClonePost w w' e n f := by
  have HR := Lib.hid (hr.below (below_new w (.cells #[] 5)))
  have HF := Lib.hid hf
  have hown := own_none8 w f
  have hnil := Lib.run_eql_slice_nil (P := Try.prog) w 35 5 (some ad) n c 0 0 Try.underlying35
  clear hr hf
  go_enter Try.func39, Try.ntmps39
  go_wp2_with (at_builtin; refine wpList_app rfl _ _ 35 rfl .u8 5 Try.underlying35 1 u8_info (by omega) w.heap.size _ 0 f rfl hown (some ad) n c f rfl HR.out (fun h => by cases h) (by omega) (by simp) ?_; intro v2 w5 hown2 hb2 hsz2)
  clear hnil
  have HO := Lib.hid hown2
  have HB := Lib.hid ((below_new w (.cells #[] 5)).trans hb2)
  clear hown hown2 hb2 hsz2
  go_wp2
  go_ret
  refine ⟨v2, rfl, ?_, HB.out, own_typ8 HO.out⟩
  have h2 := HO.out
  rw [Nat.zero_add] at h2
  exact own_byt (h2.congr fun j _ => by simp [appF]) HF.out
end Go.Proofs.Ytmcbmbcfgefocaa
