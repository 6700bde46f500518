/- Contracts: both sides' Sum. -/
import Derived.Test.YteeomidlnijfbaaPCc
import Derived.Lib.SlBytesConst
import Derived.Lib.SliceRun
namespace Go.Proofs.Yteeomidlnijfbaa
open Go.RowKit

/-- n bytes, f. -/
def Byt (w : World) (v : Value) (n : Nat) (f : Nat → Nat) : Prop := ∃ A c, v = .slice A n c ∧ n ≤ c ∧ Rd .u8 w A n f ∧ ∀ j, j < n → f j < 256
theorem Byt.below {w w' : World} {v : Value} {n : Nat} {f : Nat → Nat} (h : Byt w v n f) (hb : Below w.heap.size w w') : Byt w' v n f := by
  obtain ⟨A, c, h1, h2, h3, h4⟩ := h
  exact ⟨A, c, h1, h2, h3.below hb, h4⟩

def zeros : Array Value := Array.replicate 256 (.int .u32 0)
theorem zero_tab (w : World) : Sem.run Try.prog (zeroValue 137) w = .ok (.agg zeros) w := by kernel_rfl
theorem zeros_row (w : World) : Row .u32 137 (w.alloc (.cells zeros 137)) w.heap.size 256 (fun _ => 0) :=
  ⟨_, heap_alloc_new w _, by simp [zeros], fun j hj => by simp [zeros, hj]⟩
set_option maxRecDepth 100000 in
set_option maxHeartbeats 1000000 in
theorem sum_any (A : Option Addr) (n c : Nat) (f : Nat → Nat) (w : World) (hr : Rd .u8 w A n f) (hf : ∀ j, j < n → f j < 256) (hn : n ≤ 4611686018427387904) :
    Calls Try.prog 88 #[.slice A n c] w fun e w' => e = .returned (.int .u32 (crcN f n : Nat)) ∧ Below w.heap.size w w' := by
  have HR := Lib.hid hr
  have HF := Lib.hid hf
  clear hr hf
  have hz := zero_tab w
  go_enter Try.func88, Try.ntmps88
  go_wp2_with (go_at_call 93; refine (fill_any _ _ _ (zeros_row w) rfl).mono ?_; rintro e w1 ⟨rfl, hw1, ft, hrow, htab⟩; have HW1 := Lib.hid (show Below w.heap.size w w1 from hw1.below ((Below.refl _ _).alloc (Nat.le_refl _) _) (by simp) (Nat.le_refl _)); have HRW := Lib.hid hrow; have HTB := Lib.hid htab; clear hw1 hrow htab)
  clear hz
  go_loop [10, 4] (fun v s => ∃ k : Nat, k ≤ n ∧ v = .int .i64 (k : Nat) ∧ s = .int .u32 (crcS f k : Nat)) (fun v _ => n - (intOf v).toNat)
  case atStart => exact ⟨0, Nat.zero_le _, rfl, rfl⟩
  case round =>
    obtain ⟨k, hk, rfl, rfl⟩ := hrel
    have hs : crcS f k < 4294967296 := crcS_lt k (fun j hj => HF.out j (by omega))
    have hc : crcS f (k + 1) = shn 8 (crcS f k ^^^ f k) := rfl
    have hE : crcN f k = 4294967295 ^^^ crcS f k := rfl
    generalize crcS f k = s at *
    by_cases hlt : k < n
    · have hfk := HF.out k hlt
      have hcs := crc_step s (f k)
      obtain ⟨ad, rfl, hcell⟩ := (HR.out.below HW1.out) k hlt
      have hix : (s % 256) ^^^ f k < 256 := byte_xor (by omega) hfk
      have hx1 : bits BinOp.xor IntKind.u8 ((s : Int) % 256) (f k : Nat) = (((s % 256) ^^^ f k : Nat) : Int) := by
        have := u8_xor_nat (s % 256) (f k) (by omega) hfk
        rw [← this]
        rfl
      have ht := HTB.out _ hix
      have hx2 : bits BinOp.xor IntKind.u32 ((s : Int) / 256) (shn 8 ((s % 256) ^^^ f k) : Nat) = ((shn 8 (s ^^^ f k) : Nat) : Int) := by
        have := u32_xor_nat (s / 256) (shn 8 ((s % 256) ^^^ f k)) (by omega) (shn_lt 8 (by omega))
        rw [hcs] at this
        rw [← this]
        rfl
      have hcl := HRW.out.cell hix
      rw [ht] at hcl
      generalize (s % 256) ^^^ f k = ix at *
      have HC := Lib.hid hc
      have i1 : (0 : Int) ≤ (ix : Int) := by omega
      have i2 : (ix : Int) < 256 := by omega
      have hfk' : (f k : Int) < 256 := by omega
      clear hc hcs ht hix
      clear hE
      go_wp2
      go_round
      case rel => exact ⟨k + 1, by omega, by go_num, by rw [HC.out]⟩
      case measure => simp [intOf]; omega
    · obtain rfl : k = n := by omega
      have hx : bits BinOp.xor IntKind.u32 IntKind.u32.max (s : Int) = ((4294967295 ^^^ s : Nat) : Int) := u32_xor_nat 4294967295 s (by omega) hs
      have HE := Lib.hid hE
      clear hc hE
      go_wp2
      go_ret
      exact ⟨by rw [HE.out]; rfl, HW1.out⟩

end Go.Proofs.Yteeomidlnijfbaa

/- Contracts: the document's Rows; ahead, bytes.Clone, both sides' Seal. -/
namespace Go.Proofs.Yteeomidlnijfbaa
open Go.RowKit

theorem Below.drewN_ {w wr : World} {B : Nat} (h : Below B w wr) (n : Nat) : Below B w (wr.drewN n) := ⟨h.os, h.tape, h.output, h.size, h.block⟩
theorem Below.drew_ {w wr : World} {B : Nat} (h : Below B w wr) : Below B w wr.drew := ⟨h.os, h.tape, h.output, h.size, h.block⟩
theorem row_new {K : IntKind} {t : TypeId} (w : World) (cs : Array Value) (n : Nat) (f : Nat → Nat) (hn : cs.size = n) (h : ∀ j, j < n → cs[j]? = some (.int K (f j : Nat))) : Row K t (w.alloc (.cells cs t)) w.heap.size n f :=
  ⟨cs, heap_alloc_new w _, hn, h⟩
theorem row_one {K : IntKind} {t : TypeId} (w : World) (x : Nat) : Row K t (w.alloc (.cells #[.int K (x : Nat)] t)) w.heap.size 1 (fun _ => x) :=
  row_new w _ 1 _ rfl fun j hj => by
    obtain rfl : j = 0 := by omega
    rfl
theorem below_new (w : World) (o : Obj) : Below w.heap.size w (w.alloc o) := (Below.refl _ _).alloc (Nat.le_refl _) _
theorem u8_info : (Try.prog.info? 5).map (fun i => (i.zero, i.size, i.bytes)) = some (some (.int .u8 0), 1, 1) := by kernel_rfl

theorem num4_lt {f : Nat → Nat} {k : Nat} (h : ∀ j, j < 4 → f j < 256) (hk : k ≤ 4) : num 256 f k < 4294967296 := by
  have := num_lt' k (fun j hj => h j (by omega))
  have h2 : 2 ^ (8 * k) ≤ 2 ^ 32 := Nat.pow_le_pow_right (by decide) (by omega)
  omega
theorem or_step {f : Nat → Nat} {k : Nat} (h : ∀ j, j < k → f j < 256) : num 256 f k ||| f k * 2 ^ (8 * k) = num 256 f (k + 1) := by
  rw [num, p256, Nat.add_comm, Nat.mul_comm, Nat.two_pow_add_eq_or_of_lt (num_lt' k h), Nat.or_comm]

set_option maxRecDepth 20000 in
set_option maxHeartbeats 1000000 in
theorem ahead_any (A : Option Addr) (n c : Nat) (f : Nat → Nat) (w : World) (hr : Rd .u8 w A n f) (hf : ∀ j, j < n → f j < 256) (hn : 4 ≤ n) :
    Calls Try.prog 90 #[.slice A n c] w fun e w' => e = .returned (.int .u32 (num 256 f 4 : Nat)) ∧ w = w' := by
  have HR := Lib.hid hr
  have HF := Lib.hid hf
  clear hr hf
  go_enter Try.func90, Try.ntmps90
  go_wp2
  go_loop [5, 3] (fun v s => ∃ k : Nat, k ≤ 4 ∧ v = .int .i64 (k : Nat) ∧ s = .int .u32 (num 256 f k : Nat)) (fun v _ => 4 - (intOf v).toNat)
  case atStart => exact ⟨0, by omega, rfl, rfl⟩
  case round =>
    obtain ⟨k, hk, rfl, rfl⟩ := hrel
    by_cases hlt : k < 4
    · have hfk := HF.out k (by omega)
      obtain ⟨ad, rfl, hcell⟩ := HR.out k (by omega)
      have h1 : num 256 f k < 4294967296 := num4_lt (fun j hj => HF.out j (by omega)) hk
      have h2 := or_step (f := f) (k := k) (fun j hj => HF.out j (by omega))
      have h3 : num 256 f (k + 1) < 4294967296 := num4_lt (fun j hj => HF.out j (by omega)) (by omega)
      have h4 : f k * 2 ^ (8 * k) < 4294967296 := by rw [num, p256] at h3; omega
      have h5 : bits BinOp.or IntKind.u32 (num 256 f k : Nat) (f k * 2 ^ (8 * k) : Nat) = (num 256 f (k + 1) : Nat) := by rw [u32_or_nat _ _ h1 h4, h2]
      have H5 := Lib.hid h5
      have H3 := Lib.hid h3
      clear h1 h2 h3 h4 h5
      generalize num 256 f k = z at *
      generalize hz' : num 256 f (k + 1) = z' at *
      have HZ := Lib.hid hz'
      clear hz'
      generalize f k = y at *
      have hk4 : k = 0 ∨ k = 1 ∨ k = 2 ∨ k = 3 := by omega
      have hfk' : (y : Int) < 256 := by omega
      rcases hk4 with rfl | rfl | rfl | rfl
      · have hc : w.cell? ad = some (.int .u8 (y : Nat)) := hcell
        clear hcell
        go_wp2
        go_round
        case rel => exact ⟨1, by omega, rfl, by rw [HZ.out]; exact congrArg (Value.int .u32) (by have := H5.out; simpa using this)⟩
        case measure => simp [intOf]
      · have hc : w.cell? ⟨ad.block, ad.off + 1, none⟩ = some (.int .u8 (y : Nat)) := hcell
        clear hcell
        go_wp2
        go_round
        case rel => exact ⟨2, by omega, rfl, by rw [HZ.out]; exact congrArg (Value.int .u32) (by have := H5.out; simpa using this)⟩
        case measure => simp [intOf]
      · have hc : w.cell? ⟨ad.block, ad.off + 2, none⟩ = some (.int .u8 (y : Nat)) := hcell
        clear hcell
        go_wp2
        go_round
        case rel => exact ⟨3, by omega, rfl, by rw [HZ.out]; exact congrArg (Value.int .u32) (by have := H5.out; simpa using this)⟩
        case measure => simp [intOf]
      · have hc : w.cell? ⟨ad.block, ad.off + 3, none⟩ = some (.int .u8 (y : Nat)) := hcell
        clear hcell
        go_wp2
        go_round
        case rel => exact ⟨4, by omega, rfl, by rw [HZ.out]; exact congrArg (Value.int .u32) (by have := H5.out; simpa using this)⟩
        case measure => simp [intOf]
    · obtain rfl : k = 4 := by omega
      go_wp2
      go_ret
      exact ⟨rfl, rfl⟩

/-- The block of a row is one of bytes. -/
def Typ8 (w : World) (v : Value) : Prop := ∀ k, v.ownBlock = some k → ∃ cs m, w.heap[k]? = some (.cells cs 5 m)
theorem Typ8.below {w w' : World} {v : Value} (h : Typ8 w v) (hb : Below w.heap.size w w') : Typ8 w' v := fun k hk => by
  obtain ⟨cs, m, h1⟩ := h k hk
  exact ⟨cs, m, (hb.block k (Array.getElem?_eq_some_iff.1 h1).1).trans h1⟩
theorem Typ8.part {w : World} {a b : Addr} {n c n' c' : Nat} (h : Typ8 w (.slice (some a) n c)) (e : b.block = a.block) : Typ8 w (.slice (some b) n' c') := fun k hk => h k (by
  have hk : some b.block = some k := hk
  show some a.block = some k
  rw [← e]; exact hk)
theorem own_typ8 {w : World} {base n : Nat} {v : Value} {f : Nat → Nat} (h : Own .u8 5 w base v n f) : Typ8 w v := fun k hk => by
  rcases h.2 with ⟨rfl, _⟩ | ⟨g, c, cur, rfl, _, hh, _⟩
  · cases hk
  · injection hk with hk
    subst hk
    exact ⟨cur, (0, 0), hh⟩
def ClonePost (w w' : World) (e : Ending) (n : Nat) (f : Nat → Nat) : Prop := ∃ v, e = .returned v ∧ Byt w' v n f ∧ Below w.heap.size w w' ∧ Typ8 w' v
theorem own_byt {w : World} {base n : Nat} {v : Value} {f : Nat → Nat} {t : TypeId} (h : Own .u8 t w base v n f) (hf : ∀ j, j < n → f j < 256) : Byt w v n f := by
  rcases h.form with ⟨rfl, rfl⟩ | ⟨g, c, rfl, _, hc⟩
  · exact ⟨none, 0, rfl, Nat.le_refl _, Rd.zero, hf⟩
  · exact ⟨_, c, rfl, hc, h.rd_, hf⟩
theorem own_none8 (w : World) (f : Nat → Nat) : Own .u8 5 (w.alloc (.cells #[] 5)) w.heap.size (.slice (some ⟨w.heap.size, 0, none⟩) 0 0) 0 f :=
  World.ownsRow_lit w _ 0 (Nat.le_refl _) (by simp only [maxLen]; omega) rfl

set_option maxRecDepth 100000 in
set_option maxHeartbeats 1000000 in
theorem clone_any (ad : Addr) (n c : Nat) (f : Nat → Nat) (w : World) (hr : Rd .u8 w (some ad) n f) (hf : ∀ j, j < n → f j < 256) (hn : n ≤ 1000000) :
    Calls Try.prog 50 #[.slice (some ad) n c] w fun e w' => ClonePost w w' e n f := by
  have HR := Lib.hid (hr.below (below_new w (.cells #[] 5)))
  have HF := Lib.hid hf
  have hown := own_none8 w f
  have hnil := Lib.run_eql_slice_nil (P := Try.prog) w 35 5 (some ad) n c 0 0 Try.underlying35
  clear hr hf
  go_enter Try.func50, Try.ntmps50
  go_wp2_with (at_builtin; refine wpList_app rfl _ _ 35 rfl .u8 5 Try.underlying35 1 u8_info (by omega) w.heap.size _ 0 f rfl hown (some ad) n c f rfl HR.out (fun h => by cases h) (by omega) (by simp) ?_; intro v2 w5 hown2 hb2 hsz2)
  clear hnil
  have HO := Lib.hid hown2
  have HB := Lib.hid ((below_new w (.cells #[] 5)).trans hb2)
  clear hown hown2 hb2 hsz2
  go_wp2
  go_ret
  refine ⟨v2, rfl, ?_, HB.out, own_typ8 HO.out⟩
  have h2 := HO.out
  rw [Nat.zero_add] at h2
  exact own_byt (h2.congr fun j _ => by simp [appF]) HF.out
end Go.Proofs.Yteeomidlnijfbaa
