/- Contracts: the document's Rows; ahead, bytes.Clone, both sides' Seal. -/
import Derived.Test.YtmedmeabjlmggaaCd
import Derived.Lib.SlBytesConst
import Derived.Lib.SliceRun
namespace Go.Proofs.Ytmedmeabjlmggaa
open Go.RowKit

theorem Below.drewN_ {w wr : World} {B : Nat} (h : Below B w wr) (n : Nat) : Below B w (wr.drewN n) := ⟨h.os, h.tape, h.output, h.size, h.block⟩
theorem Below.drew_ {w wr : World} {B : Nat} (h : Below B w wr) : Below B w wr.drew := ⟨h.os, h.tape, h.output, h.size, h.block⟩
theorem row_new {K : IntKind} {t : TypeId} (w : World) (cs : Array Value) (n : Nat) (f : Nat → Nat) (hn : cs.size = n) (h : ∀ j, j < n → cs[j]? = some (.int K (f j : Nat))) : Row K t (w.alloc (.cells cs t)) w.heap.size n f :=
  ⟨cs, heap_alloc_new w _, hn, h⟩
theorem row_one {K : IntKind} {t : TypeId} (w : World) (x : Nat) : Row K t (w.alloc (.cells #[.int K (x : Nat)] t)) w.heap.size 1 (fun _ => x) :=
  row_new w _ 1 _ rfl fun j hj => by
    obtain rfl : j = 0 := by omega
    rfl
theorem below_new (w : World) (o : Obj) : Below w.heap.size w (w.alloc o) := (Below.refl _ _).alloc (Nat.le_refl _) _
theorem u8_info : (Try.prog.info? 5).map (fun i => (i.zero, i.size, i.bytes)) = some (some (.int .u8 0), 1, 1) := by kernel_rfl

set_option maxHeartbeats 1000000 in
theorem rows_true (A : Option Addr) (n c : Nat) (f : Nat → Nat) (B : Option Addr) (d : Nat) (h : Nat → Nat) (w : World) (ha : Rd .u8 w A n f) (hb : Rd .u8 w B n h) (hn : n ≤ 4611686018427387904) (he : ∀ j, j < n → f j = h j) :
    Calls Try.prog 14 #[.slice A n c, .slice B n d] w fun e w' => e = .returned (.bool true) ∧ Below w.heap.size w w' := by
  go_enter Try.func14, Try.ntmps14
  go_wp2
  go_loopw [5] (fun v wr => ∃ k : Nat, k ≤ n ∧ v = .int .i64 k ∧ Below w.heap.size w wr) (fun v _ => n - (intOf v).toNat)
  case atStart => exact ⟨0, Nat.zero_le _, rfl, Below.refl _ _⟩
  case round =>
    obtain ⟨k, hk, rfl, hbl⟩ := hrel
    have HA := Lib.hid ha
    have HB := Lib.hid hb
    have HE := Lib.hid he
    clear ha hb he
    by_cases hlt : k < n
    · obtain ⟨ad, rfl, hc1⟩ := (HA.out.below hbl) k hlt
      obtain ⟨bd, rfl, hc2⟩ := (HB.out.below hbl) k hlt
      rw [← HE.out k hlt] at hc2
      go_wp2
      go_quiet (fail)
      go_wp2
      go_roundw
      case rel => exact ⟨k + 1, by omega, by go_num, Below.drewN_ hbl _⟩
      case measure => simp [intOf]; omega
    · go_wp2
      go_ret
      exact ⟨rfl, hbl⟩

theorem num4_lt {f : Nat → Nat} {k : Nat} (h : ∀ j, j < 4 → f j < 256) (hk : k ≤ 4) : num 256 f k < 4294967296 := by
  have := num_lt' k (fun j hj => h j (by omega))
  have h2 : 2 ^ (8 * k) ≤ 2 ^ 32 := Nat.pow_le_pow_right (by decide) (by omega)
  omega
theorem or_step {f : Nat → Nat} {k : Nat} (h : ∀ j, j < k → f j < 256) : num 256 f k ||| f k * 2 ^ (8 * k) = num 256 f (k + 1) := by
  rw [num, p256, Nat.add_comm, Nat.mul_comm, Nat.two_pow_add_eq_or_of_lt (num_lt' k h), Nat.or_comm]

set_option maxRecDepth 20000 in
set_option maxHeartbeats 1000000 in
theorem ahead_any (A : Option Addr) (n c : Nat) (f : Nat → Nat) (w : World) (hr : Rd .u8 w A n f) (hf : ∀ j, j < n → f j < 256) (hn : 4 ≤ n) :
    Calls Try.prog 59 #[.slice A n c] w fun e w' => e = .returned (.int .u32 (num 256 f 4 : Nat)) ∧ w = w' := by
  have HR := Lib.hid hr
  have HF := Lib.hid hf
  clear hr hf
  go_enter Try.func59, Try.ntmps59
  go_wp2
  go_loop [5, 3] (fun v s => ∃ k : Nat, k ≤ 4 ∧ v = .int .i64 (k : Nat) ∧ s = .int .u32 (num 256 f k : Nat)) (fun v _ => 4 - (intOf v).toNat)
  case atStart => exact ⟨0, by omega, rfl, rfl⟩
  case round =>
    obtain ⟨k, hk, rfl, rfl⟩ := hrel
    by_cases hlt : k < 4
    · have hfk := HF.out k (by omega)
      obtain ⟨ad, rfl, hcell⟩ := HR.out k (by omega)
      have h1 : num 256 f k < 4294967296 := num4_lt (fun j hj => HF.out j (by omega)) hk
      have h2 := or_step (f := f) (k := k) (fun j hj => HF.out j (by omega))
      have h3 : num 256 f (k + 1) < 4294967296 := num4_lt (fun j hj => HF.out j (by omega)) (by omega)
      have h4 : f k * 2 ^ (8 * k) < 4294967296 := by rw [num, p256] at h3; omega
      have h5 : bits BinOp.or IntKind.u32 (num 256 f k : Nat) (f k * 2 ^ (8 * k) : Nat) = (num 256 f (k + 1) : Nat) := by rw [u32_or_nat _ _ h1 h4, h2]
      have H5 := Lib.hid h5
      have H3 := Lib.hid h3
      clear h1 h2 h3 h4 h5
      generalize num 256 f k = z at *
      generalize hz' : num 256 f (k + 1) = z' at *
      have HZ := Lib.hid hz'
      clear hz'
      generalize f k = y at *
      have hk4 : k = 0 ∨ k = 1 ∨ k = 2 ∨ k = 3 := by omega
      have hfk' : (y : Int) < 256 := by omega
      rcases hk4 with rfl | rfl | rfl | rfl
      · have hc : w.cell? ad = some (.int .u8 (y : Nat)) := hcell
        clear hcell
        go_wp2
        go_round
        case rel => exact ⟨1, by omega, rfl, by rw [HZ.out]; exact congrArg (Value.int .u32) (by have := H5.out; simpa using this)⟩
        case measure => simp [intOf]
      · have hc : w.cell? ⟨ad.block, ad.off + 1, none⟩ = some (.int .u8 (y : Nat)) := hcell
        clear hcell
        go_wp2
        go_round
        case rel => exact ⟨2, by omega, rfl, by rw [HZ.out]; exact congrArg (Value.int .u32) (by have := H5.out; simpa using this)⟩
        case measure => simp [intOf]
      · have hc : w.cell? ⟨ad.block, ad.off + 2, none⟩ = some (.int .u8 (y : Nat)) := hcell
        clear hcell
        go_wp2
        go_round
        case rel => exact ⟨3, by omega, rfl, by rw [HZ.out]; exact congrArg (Value.int .u32) (by have := H5.out; simpa using this)⟩
        case measure => simp [intOf]
      · have hc : w.cell? ⟨ad.block, ad.off + 3, none⟩ = some (.int .u8 (y : Nat)) := hcell
        clear hcell
        go_wp2
        go_round
        case rel => exact ⟨4, by omega, rfl, by rw [HZ.out]; exact congrArg (Value.int .u32) (by have := H5.out; simpa using this)⟩
        case measure => simp [intOf]
    · obtain rfl : k = 4 := by omega
      go_wp2
      go_ret
      exact ⟨rfl, rfl⟩

def ClonePost (w w' : World) (e : Ending) (n : Nat) (f : Nat → Nat) : Prop := ∃ v, e = .returned v ∧ Byt w' v n f ∧ Below w.heap.size w w'
theorem own_byt {w : World} {base n : Nat} {v : Value} {f : Nat → Nat} {t : TypeId} (h : Own .u8 t w base v n f) (hf : ∀ j, j < n → f j < 256) : Byt w v n f := by
  rcases h.form with ⟨rfl, rfl⟩ | ⟨g, c, rfl, _, hc⟩
  · exact ⟨none, 0, rfl, Nat.le_refl _, Rd.zero, hf⟩
  · exact ⟨_, c, rfl, hc, h.rd_, hf⟩
theorem own_none8 (w : World) (f : Nat → Nat) : Own .u8 5 (w.alloc (.cells #[] 5)) w.heap.size (.slice (some ⟨w.heap.size, 0, none⟩) 0 0) 0 f :=
  World.ownsRow_lit w _ 0 (Nat.le_refl _) (by simp only [maxLen]; omega) rfl

set_option maxHeartbeats 1000000 in
theorem clone_any (ad : Addr) (n c : Nat) (f : Nat → Nat) (w : World) (hr : Rd .u8 w (some ad) n f) (hf : ∀ j, j < n → f j < 256) (hn : n ≤ 1000000) :
    Calls Try.prog 32 #[.slice (some ad) n c] w fun e w' => ClonePost w w' e n f := by
  have HR := Lib.hid (hr.below (below_new w (.cells #[] 5)))
  have HF := Lib.hid hf
  have hown := own_none8 w f
  have hnil := Lib.run_eql_slice_nil (P := Try.prog) w 24 5 (some ad) n c 0 0 Try.underlying24
  clear hr hf
  go_enter Try.func32, Try.ntmps32
  go_wp2_with (at_builtin; refine wpList_app rfl _ _ 24 rfl .u8 5 Try.underlying24 1 u8_info (by omega) w.heap.size _ 0 f rfl hown (some ad) n c f rfl HR.out (fun h => by cases h) (by omega) (by simp) ?_; intro v2 w5 hown2 hb2 hsz2)
  clear hnil
  have HO := Lib.hid hown2
  have HB := Lib.hid ((below_new w (.cells #[] 5)).trans hb2)
  clear hown hown2 hb2 hsz2
  go_wp2
  go_ret
  refine ⟨v2, rfl, ?_, HB.out⟩
  have h2 := HO.out
  rw [Nat.zero_add] at h2
  exact own_byt (h2.congr fun j _ => by simp [appF]) HF.out
end Go.Proofs.Ytmedmeabjlmggaa
