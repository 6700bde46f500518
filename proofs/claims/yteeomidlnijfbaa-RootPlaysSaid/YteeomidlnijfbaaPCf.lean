/- Contracts: the document's Rows; ahead, bytes.Clone, both sides' Seal. -/
import Derived.Test.YteeomidlnijfbaaPCd
import Derived.Lib.SlBytesConst
import Derived.Lib.SliceRun
namespace Go.Proofs.Yteeomidlnijfbaa
open Go.RowKit

theorem Below.drewN_ {w wr : World} {B : Nat} (h : Below B w wr) (n : Nat) : Below B w (wr.drewN n) := ⟨h.os, h.tape, h.output, h.size, h.block⟩
theorem Below.drew_ {w wr : World} {B : Nat} (h : Below B w wr) : Below B w wr.drew := ⟨h.os, h.tape, h.output, h.size, h.block⟩
theorem row_new {K : IntKind} {t : TypeId} (w : World) (cs : Array Value) (n : Nat) (f : Nat → Nat) (hn : cs.size = n) (h : ∀ j, j < n → cs[j]? = some (.int K (f j : Nat))) : Row K t (w.alloc (.cells cs t)) w.heap.size n f :=
  ⟨cs, heap_alloc_new w _, hn, h⟩
theorem row_one {K : IntKind} {t : TypeId} (w : World) (x : Nat) : Row K t (w.alloc (.cells #[.int K (x : Nat)] t)) w.heap.size 1 (fun _ => x) :=
  row_new w _ 1 _ rfl fun j hj => by
    obtain rfl : j = 0 := by omega
    rfl
theorem below_new (w : World) (o : Obj) : Below w.heap.size w (w.alloc o) := (Below.refl _ _).alloc (Nat.le_refl _) _
theorem u8_info : (Try.prog.info? 5).map (fun i => (i.zero, i.size, i.bytes)) = some (some (.int .u8 0), 1, 1) := by kernel_rfl

theorem num4_lt {f : Nat → Nat} {k : Nat} (h : ∀ j, j < 4 → f j < 256) (hk : k ≤ 4) : num 256 f k < 4294967296 := by
  have := num_lt' k (fun j hj => h j (by omega))
  have h2 : 2 ^ (8 * k) ≤ 2 ^ 32 := Nat.pow_le_pow_right (by decide) (by omega)
  omega
theorem or_step {f : Nat → Nat} {k : Nat} (h : ∀ j, j < k → f j < 256) : num 256 f k ||| f k * 2 ^ (8 * k) = num 256 f (k + 1) := by
  rw [num, p256, Nat.add_comm, Nat.mul_comm, Nat.two_pow_add_eq_or_of_lt (num_lt' k h), Nat.or_comm]

set_option maxRecDepth 20000 in
set_option maxHeartbeats 1000000 in
theorem ahead_any (A : Option Addr) (n c : Nat) (f : Nat → Nat) (w : World) (hr : Rd .u8 w A n f) (hf : ∀ j, j < n → f j < 256) (hn : 4 ≤ n) :
    Calls Try.prog 90 #[.slice A n c] w fun e w' => e = .returned (.int .u32 (num 256 f 4 : Nat)) ∧ w = w' := by
  have HR := Lib.hid hr
  have HF := Lib.hid hf
  clear hr hf
  go_enter Try.func90, Try.ntmps90
  go_wp2
  go_loop [5, 3] (fun v s => ∃ k : Nat, k ≤ 4 ∧ v = .int .i64 (k : Nat) ∧ s = .int .u32 (num 256 f k : Nat)) (fun v _ => 4 - (intOf v).toNat)
  case atStart => exact ⟨0, by omega, rfl, rfl⟩
  case round =>
    obtain ⟨k, hk, rfl, rfl⟩ := hrel
    by_cases hlt : k < 4
    · have hfk := HF.out k (by omega)
      obtain ⟨ad, rfl, hcell⟩ := HR.out k (by omega)
      have h1 : num 256 f k < 4294967296 := num4_lt (fun j hj => HF.out j (by omega)) hk
      have h2 := or_step (f := f) (k := k) (fun j hj => HF.out j (by omega))
      have h3 : num 256 f (k + 1) < 4294967296 := num4_lt (fun j hj => HF.out j (by omega)) (by omega)
      have h4 : f k * 2 ^ (8 * k) < 4294967296 := by rw [num, p256] at h3; omega
      have h5 : bits BinOp.or IntKind.u32 (num 256 f k : Nat) (f k * 2 ^ (8 * k) : Nat) = (num 256 f (k + 1) : Nat) := by rw [u32_or_nat _ _ h1 h4, h2]
      have H5 := Lib.hid h5
      have H3 := Lib.hid h3
      clear h1 h2 h3 h4 h5
      generalize num 256 f k = z at *
      generalize hz' : num 256 f (k + 1) = z' at *
      have HZ := Lib.hid hz'
      clear hz'
      generalize f k = y at *
      have hk4 : k = 0 ∨ k = 1 ∨ k = 2 ∨ k = 3 := by omega
      have hfk' : (y : Int) < 256 := by omega
      rcases hk4 with rfl | rfl | rfl | rfl
      · have hc : w.cell? ad = some (.int .u8 (y : Nat)) := hcell
        clear hcell
        go_wp2
        go_round
        case rel => exact ⟨1, by omega, rfl, by rw [HZ.out]; exact congrArg (Value.int .u32) (by have := H5.out; simpa using this)⟩
        case measure => simp [intOf]
      · have hc : w.cell? ⟨ad.block, ad.off + 1, none⟩ = some (.int .u8 (y : Nat)) := hcell
        clear hcell
        go_wp2
        go_round
        case rel => exact ⟨2, by omega, rfl, by rw [HZ.out]; exact congrArg (Value.int .u32) (by have := H5.out; simpa using this)⟩
        case measure => simp [intOf]
      · have hc : w.cell? ⟨ad.block, ad.off + 2, none⟩ = some (.int .u8 (y : Nat)) := hcell
        clear hcell
        go_wp2
        go_round
        case rel => exact ⟨3, by omega, rfl, by rw [HZ.out]; exact congrArg (Value.int .u32) (by have := H5.out; simpa using this)⟩
        case measure => simp [intOf]
      · have hc : w.cell? ⟨ad.block, ad.off + 3, none⟩ = some (.int .u8 (y : Nat)) := hcell
        clear hcell
        go_wp2
        go_round
        case rel => exact ⟨4, by omega, rfl, by rw [HZ.out]; exact congrArg (Value.int .u32) (by have := H5.out; simpa using this)⟩
        case measure => simp [intOf]
    · obtain rfl : k = 4 := by omega
      go_wp2
      go_ret
      exact ⟨rfl, rfl⟩

/-- The block of a row is one of bytes. -/
def Typ8 (w : World) (v : Value) : Prop := ∀ k, v.ownBlock = some k → ∃ cs m, w.heap[k]? = some (.cells cs 5 m)
theorem Typ8.below {w w' : World} {v : Value} (h : Typ8 w v) (hb : Below w.heap.size w w') : Typ8 w' v := fun k hk => by
  obtain ⟨cs, m, h1⟩ := h k hk
  exact ⟨cs, m, (hb.block k (Array.getElem?_eq_some_iff.1 h1).1).trans h1⟩
theorem Typ8.part {w : World} {a b : Addr} {n c n' c' : Nat} (h : Typ8 w (.slice (some a) n c)) (e : b.block = a.block) : Typ8 w (.slice (some b) n' c') := fun k hk => h k (by
  have hk : some b.block = some k := hk
  show some a.block = some k
  rw [← e]; exact hk)
theorem own_typ8 {w : World} {base n : Nat} {v : Value} {f : Nat → Nat} (h : Own .u8 5 w base v n f) : Typ8 w v := fun k hk => by
  rcases h.2 with ⟨rfl, _⟩ | ⟨g, c, cur, rfl, _, hh, _⟩
  · cases hk
  · injection hk with hk
    subst hk
    exact ⟨cur, (0, 0), hh⟩
def ClonePost (w w' : World) (e : Ending) (n : Nat) (f : Nat → Nat) : Prop := ∃ v, e = .returned v ∧ Byt w' v n f ∧ Below w.heap.size w w' ∧ Typ8 w' v
theorem own_byt {w : World} {base n : Nat} {v : Value} {f : Nat → Nat} {t : TypeId} (h : Own .u8 t w base v n f) (hf : ∀ j, j < n → f j < 256) : Byt w v n f := by
  rcases h.form with ⟨rfl, rfl⟩ | ⟨g, c, rfl, _, hc⟩
  · exact ⟨none, 0, rfl, Nat.le_refl _, Rd.zero, hf⟩
  · exact ⟨_, c, rfl, hc, h.rd_, hf⟩
theorem own_none8 (w : World) (f : Nat → Nat) : Own .u8 5 (w.alloc (.cells #[] 5)) w.heap.size (.slice (some ⟨w.heap.size, 0, none⟩) 0 0) 0 f :=
  World.ownsRow_lit w _ 0 (Nat.le_refl _) (by simp only [maxLen]; omega) rfl

set_option maxRecDepth 100000 in
set_option maxHeartbeats 1000000 in
theorem clone_any (ad : Addr) (n c : Nat) (f : Nat → Nat) (w : World) (hr : Rd .u8 w (some ad) n f) (hf : ∀ j, j < n → f j < 256) (hn : n ≤ 1000000) :
    Calls Try.prog 50 #[.slice (some ad) n c] w fun e w' => ClonePost w w' e n f := by
  have HR := Lib.hid (hr.below (below_new w (.cells #[] 5)))
  have HF := Lib.hid hf
  have hown := own_none8 w f
  have hnil := Lib.run_eql_slice_nil (P := Try.prog) w 35 5 (some ad) n c 0 0 Try.underlying35
  clear hr hf
  go_enter Try.func50, Try.ntmps50
  go_wp2_with (at_builtin; refine wpList_app rfl _ _ 35 rfl .u8 5 Try.underlying35 1 u8_info (by omega) w.heap.size _ 0 f rfl hown (some ad) n c f rfl HR.out (fun h => by cases h) (by omega) (by simp) ?_; intro v2 w5 hown2 hb2 hsz2)
  clear hnil
  have HO := Lib.hid hown2
  have HB := Lib.hid ((below_new w (.cells #[] 5)).trans hb2)
  clear hown hown2 hb2 hsz2
  go_wp2
  go_ret
  refine ⟨v2, rfl, ?_, HB.out, own_typ8 HO.out⟩
  have h2 := HO.out
  rw [Nat.zero_add] at h2
  exact own_byt (h2.congr fun j _ => by simp [appF]) HF.out
end Go.Proofs.Yteeomidlnijfbaa

/- Contracts: both sides' Seal. -/
namespace Go.Proofs.Yteeomidlnijfbaa
open Go.RowKit

/-- The sum's four bytes, and f behind them. -/
def sealF (s : Nat) (f : Nat → Nat) : Nat → Nat := fun j => if j < 4 then s / 256 ^ j % 256 else f (j - 4)
theorem sealF_lt {s n : Nat} {f : Nat → Nat} (hf : ∀ j, j < n → f j < 256) : ∀ j, j < 4 + n → sealF s f j < 256 := fun j hj => by
  unfold sealF
  split
  · omega
  · exact hf _ (by omega)
def SealPost (w w' : World) (e : Ending) (n : Nat) (f : Nat → Nat) : Prop := ∃ v, e = .returned v ∧ Byt w' v (4 + n) (sealF (crcN f n) f) ∧ Below w.heap.size w w'
def SlInv (w wr : World) (v : Value) (k S : Nat) (f : Nat → Nat) : Prop := Own .u8 5 wr w.heap.size v k (sealF S f) ∧ Below w.heap.size w wr
theorem SlInv.step {w wr w2 : World} {v : Value} {k S x : Nat} {f : Nat → Nat} (hb : Below w.heap.size w wr) (h : Own .u8 5 w2 w.heap.size v (k + 1) (appF (sealF S f) k (fun _ => x))) (h2 : Below w.heap.size (wr.alloc (.cells #[.int .u8 (x : Nat)] 5)) w2) (hx : x = sealF S f k) :
    SlInv w w2 v (k + 1) S f :=
  ⟨h.congr fun j hj => by
    unfold appF
    split
    · rfl
    · obtain rfl : j = k := by omega
      exact hx, (hb.trans ((below_new wr _).mono hb.size)).trans h2⟩

set_option maxRecDepth 20000 in
set_option maxHeartbeats 2000000 in
theorem seal_any (A : Option Addr) (n c : Nat) (f : Nat → Nat) (w : World) (hr : Rd .u8 w A n f) (hf : ∀ j, j < n → f j < 256) (hn : n ≤ 1000000) (hA : A = none → n = 0 ∧ c = 0) :
    Calls Try.prog 81 #[.slice A n c] w fun e w' => SealPost w w' e n f := by
  have HR := Lib.hid hr
  have HF := Lib.hid hf
  have HA := Lib.hid hA
  clear hr hf hA
  go_enter Try.func81, Try.ntmps81
  go_wp2_with (at_make; refine wpList_make_cap rfl _ _ 35 rfl .u8 5 Try.underlying35 1 u8_info (by omega) _ _ _ (4 + n) rfl rfl (by omega) (by omega) (sealF (crcN f n) f) ?_; intro w1 hown1 hb1 hs1)
  have HO1 := Lib.hid hown1
  have HB1 := Lib.hid hb1
  clear hown1 hb1
  go_wp2_with (go_at_call 88; refine (sum_any A n c f _ (HR.out.below HB1.out) HF.out (by omega)).mono ?_; rintro e w2 ⟨rfl, hb2⟩)
  have hs2 := hb2.size
  have I0 : Hid (SlInv w w2 (.slice (some ⟨w.heap.size, 0, none⟩) 0 (4 + n)) 0 (crcN f n) f) :=
    ⟨HO1.out.below hb2, HB1.out.trans (hb2.mono hs1)⟩
  clear hb2 hs1 hs2
  have hSl := crcN_lt (f := f) (n := n) HF.out
  generalize hS : crcN f n = S at *
  have HS := Lib.hid hS
  clear hS
  go_loopw [3, 4, 11] (fun v3 v4 v11 wr => ∃ k, k ≤ 4 ∧ v4 = .int .u32 (S / 256 ^ k : Nat) ∧ v11 = .int .i64 (k : Nat) ∧ SlInv w wr v3 k S f) (fun _ _ v11 _ => 4 - (intOf v11).toNat)
  case atStart => exact ⟨0, by omega, by rw [Nat.pow_zero, Nat.div_one], rfl, I0.out⟩
  case round =>
    obtain ⟨k, hk, rfl, rfl, hinv⟩ := hrel
    clear I0
    have HI := Lib.hid hinv
    clear hinv
    have hz : S / 256 ^ k < 4294967296 := Nat.lt_of_le_of_lt (Nat.div_le_self _ _) hSl
    by_cases hk4 : k < 4
    · have HZ : Hid (S / 256 ^ k % 256 = sealF S f k) := by show _ = _; unfold sealF; rw [if_pos hk4]
      have HZ2 : Hid (S / 256 ^ (k + 1) = S / 256 ^ k / 256) := by show _ = _; rw [Nat.pow_succ, Nat.div_div_eq_div_mul]
      generalize S / 256 ^ k = z at *
      have hown1 := HI.out.1.alloc (.cells #[.int .u8 ((z : Int) % 256)] 5)
      have hrd1 : Rd .u8 (wr.alloc (.cells #[.int .u8 ((z : Int) % 256)] 5)) (some ⟨wr.heap.size, 0, none⟩) 1 (fun _ => z % 256) := (row_one wr (z % 256)).rd0 (Nat.le_refl _)
      have hws := HI.out.2.size
      have HST : Hid (∀ v2 w5, Own .u8 5 w5 w.heap.size v2 (k + 1) (appF (sealF S f) k (fun _ => z % 256)) → Below w.heap.size (wr.alloc (.cells #[.int .u8 ((z : Int) % 256)] 5)) w5 → SlInv w w5 v2 (k + 1) S f) := fun v2 w5 q1 q2 =>
        SlInv.step (wr := wr) HI.out.2 q1 q2 HZ.out
      clear HI
      go_wp2_with (at_builtin; refine wpList_app rfl (.tmp 13) (.tmp 16) 35 rfl .u8 5 Try.underlying35 1 u8_info (by omega) w.heap.size _ k (sealF S f) rfl hown1 (some ⟨wr.heap.size, 0, none⟩) 1 1 (fun _ => z % 256) rfl hrd1 (fun h => by cases h) (by omega) (by simp; omega) ?_; intro v2 w5 hown2 hb2 hsz2)
      have HS2 := Lib.hid (HST.out _ _ hown2 hb2)
      clear hown2 hb2 hsz2 hown1 hrd1
      go_wp2
      go_roundw
      case rel => exact ⟨k + 1, by omega, by rw [HZ2.out]; go_num, by go_num, HS2.out⟩
      case measure => simp [intOf]; omega
    · obtain rfl : k = 4 := by omega
      clear hz
      have hrdA := HR.out.below HI.out.2
      have hown4 := HI.out.1
      have hws := HI.out.2.size
      go_wp2_with (at_builtin; refine wpList_app rfl (.tmp 21) (.tmp 22) 35 rfl .u8 5 Try.underlying35 1 u8_info (by omega) w.heap.size _ 4 (sealF S f) rfl hown4 A n c f rfl hrdA HA.out (by omega) hws ?_; intro v2 w5 hown2 hb2 hsz2)
      have HO2 := Lib.hid hown2
      have HB2 := Lib.hid (HI.out.2.trans hb2)
      clear hown4 hrdA hown2 hb2 hsz2
      go_wp2
      go_ret
      refine ⟨v2, rfl, ?_, HB2.out⟩
      rw [HS.out]
      exact own_byt (HO2.out.congr fun j hj => by unfold appF sealF; by_cases h4 : j < 4 <;> simp [h4]) (sealF_lt HF.out)

end Go.Proofs.Yteeomidlnijfbaa
