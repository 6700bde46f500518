/- Contracts: bits.Mul of 1 and a small number, slices.Repeat of one row, slices.Clone of rows, New. -/
import Derived.Test.YteeomidlnijfbaaPDc
import Derived.Test.YteeomidlnijfbaaPVr
import Derived.Deep.RegionLaw
import Derived.Laws.Bits64
namespace Go.Proofs.Yteeomidlnijfbaa
open Go.RowKit

set_option maxRecDepth 100000 in
set_option maxHeartbeats 1000000 in
theorem mul64_one (n : Nat) (w : World) (hn : n < 4294967296) :
    Calls Try.prog 75 #[.int .u64 1, .int .u64 (n : Nat)] w fun e w' => e = .returned (.tuple #[.int .u64 0, .int .u64 (n : Nat)]) ∧ w = w' := by
  have h1 : (n : Int) % 4294967296 = n := by omega
  have h2 : (n : Int) / 4294967296 = 0 := by omega
  have b1 : bits BinOp.and IntKind.u64 1 4294967295 = 1 := by rfl
  have b0 : bits BinOp.and IntKind.u64 0 4294967295 = 0 := by rfl
  have bn : bits BinOp.and IntKind.u64 (n : Int) 4294967295 = n := by
    have := u64_and_nat n 4294967295 (by omega) (by decide)
    rw [Nat.and_two_pow_sub_one_eq_mod n 32, Nat.mod_eq_of_lt (by omega)] at this
    exact this
  go_enter Try.func75, Try.ntmps75
  go_wp2
  go_ret2
  exact ⟨rfl, rfl⟩
theorem mul_one (n : Nat) (w : World) (hn : n < 4294967296) :
    Calls Try.prog 62 #[.int .u64 1, .int .u64 (n : Nat)] w fun e w' => e = .returned (.tuple #[.int .u64 0, .int .u64 (n : Nat)]) ∧ w = w' := by
  go_enter Try.func62, Try.ntmps62
  go_wp2_with (go_at_call 75; refine (mul64_one n _ hn).mono ?_; rintro e w' ⟨rfl, rfl⟩)
  go_ret2
  exact ⟨rfl, rfl⟩

theorem rows_info : (Try.prog.info? 35).map (fun i => (i.zero, i.size, i.bytes)) = some (some (.slice none 0 0), 1, 24) := by kernel_rfl
theorem rows_size : (Try.prog.info? 35).map (·.size) = some 1 := by kernel_rfl
theorem el35 : Try.prog.underlying 32 = some (.slice (Try.prog.elem 32)) := by kernel_rfl
theorem sz35 (w : World) : (sizeOf (Try.prog.elem 32)).run Try.prog w = .ok 1 w := by kernel_rfl
theorem sl35_l (g n c k : Nat) (hk : k < n) (hc : n ≤ c) (w : World) :
    (Instr.slice 32 (.slice (some ⟨g, 0, none⟩) n c) (some (.int .i64 k)) none none).run Try.prog w = .ok (.slice (some ⟨g, k, none⟩) (n - k) (c - k)) w := by
  rw [run_slice_l w 32 (some ⟨g, 0, none⟩) n c el35 .i64 k (by omega) (by omega), sz35]
  simp only [Result.andThen, sliced, Int.toNat_natCast, Nat.mul_one]
  rw [if_neg (by omega)]
  simp only [Option.map_some, add_mk, Nat.zero_add]
theorem sl35_h (g n c k : Nat) (hk : k ≤ c) (h0 : 0 < c) (w : World) :
    (Instr.slice 32 (.slice (some ⟨g, 0, none⟩) n c) none (some (.int .i64 k)) none).run Try.prog w = .ok (.slice (some ⟨g, 0, none⟩) k c) w := by
  rw [run_slice_h w 32 (some ⟨g, 0, none⟩) n c el35 .i64 k (by omega) (by omega), sz35]
  simp only [Result.andThen, sliced, Int.toNat_natCast, Nat.zero_mul, Nat.sub_zero]
  rw [if_neg (by omega)]
  rfl

/-- n times the one row. -/
def RepPost (w w' : World) (e : Ending) (n : Nat) (v0 : Value) : Prop :=
  ∃ g, e = .returned (.slice (some ⟨g, 0, none⟩) n n) ∧ w.heap.size ≤ g ∧ w'.rowIs g 35 n (fun _ => v0) ∧ Below w.heap.size w w'
set_option maxRecDepth 100000 in
set_option maxHeartbeats 1000000 in
theorem repeat_any (g n : Nat) (v0 : Value) (w : World) (h1 : 1 ≤ n) (h2 : n ≤ 512) (hc : w.cell? ⟨g, 0, none⟩ = some v0) (hv : v0.oneCell' = true) :
    Calls Try.prog 37 #[.slice (some ⟨g, 0, none⟩) 1 1, .int .i64 (n : Nat)] w fun e w' => RepPost w w' e n v0 := by
  have HC := Lib.hid hc
  have HV := Lib.hid hv
  have QM := Lib.hid (show 1 = Nat.min 1 n from by show 1 = min 1 n; omega)
  have qf : 0 + 1 ≤ n := by omega
  have QS := Lib.hid (fun (w1 : World) (hb1 : Below w.heap.size w w1) => show ∀ j, j < 1 → w1.cell? ((⟨g, 0, none⟩ : Addr).add j) = some v0 from fun j hj => by
    obtain rfl : j = 0 := by omega
    exact cell_later hb1 hc)
  clear hc hv
  go_enter Try.func37, Try.ntmps37
  go_wp2_with (first
    | (go_at_call 62; refine (mul_one n _ (by omega)).mono ?_; rintro e w' ⟨rfl, rfl⟩)
    | (at_make; refine wpList_make_rowIs rfl _ _ 32 rfl 35 (.slice none 0 0) 24 Try.underlying32 rows_info rfl .i64 .i64 _ _ n rfl rfl rfl rfl (by omega) (by omega) ?_; intro w1 hrow1 hb1 hs1)
    | (with_reducible refine wpList_copy_rowIs rfl (.tmp 31) (.tmp 32) 32 32 rfl 35 Try.underlying32 rows_size _ 0 n n ⟨g, 0, none⟩ 1 1 rfl rfl 35 n _ hrow1 (fun _ => v0) 1 QM.out (QS.out _ hb1) (fun _ _ => HV.out) qf ?_
       intro w2 hrow2 hg2 hs2))
  have HR2 := Lib.hid (show w2.rowIs w.heap.size 35 n (splV (fun _ => .slice none 0 0) 0 1 (fun _ => v0)) from hrow2)
  have HB2 := Lib.hid (show Below w.heap.size w w2 from hb1.grown hg2 (by omega) fun k hk => by cases hk; exact Nat.le_refl _)
  clear hrow1 hrow2 hg2 hs2 hb1 hs1 QS qf QM
  go_loopw [8] (fun v wr => ∃ (k : Nat) (V : Nat → Value), 1 ≤ k ∧ k ≤ n ∧ v = .int .i64 k ∧ wr.rowIs w.heap.size 35 n V ∧ (∀ j, j < k → V j = v0) ∧ Below w.heap.size w wr) (fun v _ => n - (intOf v).toNat)
  case atStart => exact ⟨1, _, Nat.le_refl _, h1, rfl, HR2.out, fun j hj => by
    obtain rfl : j = 0 := by omega
    rfl, HB2.out⟩
  case round =>
    obtain ⟨k, V, hk1, hk, rfl, hrow, hall, hbl⟩ := hrel
    have HROW := Lib.hid hrow
    have HALL := Lib.hid hall
    have HBL := Lib.hid hbl
    have hs := hbl.size
    clear hrow hall hbl HR2 HB2
    by_cases hlt : k < n
    · have hsl1 := sl35_l w.heap.size n n k hlt (Nat.le_refl _)
      have hsl2 := sl35_h w.heap.size n n k hk (by omega)
      obtain ⟨m, hm⟩ : ∃ m, m = Nat.min k (n - k) := ⟨_, rfl⟩
      have hm' : m = min k (n - k) := hm
      have hm1 : 1 ≤ m := by omega
      have hm2 : k + m ≤ n := by omega
      have hm3 : m ≤ k := by omega
      have HWR := Lib.hid (show IntKind.i64.wrap ((k : Int) + (m : Int)) = ((k + m : Nat) : Int) from by rw [IntWalk.i64_in _ (by omega)]; omega)
      have HM := Lib.hid hm
      have QS := Lib.hid (show ∀ j, j < m → wr.drew.cell? ((⟨w.heap.size, 0, none⟩ : Addr).add j) = some (V j) from fun j hj => by
        rw [add_mk, Nat.zero_add]; exact HROW.out.drew.cell (by omega))
      have QV := Lib.hid (show ∀ j, j < m → (V j).oneCell' = true from fun j hj => by rw [HALL.out j (by omega)]; exact HV.out)
      clear hm hm'
      go_wp2
      go_region_law (
        refine step_copy_rowIs rfl (.tmp 41) (.tmp 44) 32 32 rfl 35 Try.underlying32 rows_size w.heap.size k (n - k) (n - k) ⟨w.heap.size, 0, none⟩ k n (by simp [Act.eval, Act.put]) (by simp [Act.eval, Act.put]) 35 n V HROW.out.drew V m HM.out QS.out QV.out hm2 ?_
        intro w3 hrow3 hg3 hs3)
      all_goals
        have HR3 := Lib.hid hrow3
        have HB3 := Lib.hid (show Below w.heap.size w w3 from HBL.out.drew.grown hg3 hs fun k hk => by cases hk; exact Nat.le_refl _)
        clear hrow3 hg3 hs3 hsl1 hsl2
        simp only [Act.put, List.setIfInBounds_toArray, List.set_cons_zero, List.set_cons_succ, List.getElem_toArray, List.getElem_cons_succ, List.getElem_cons_zero]
        rw [HWR.out]
        go_wp2
        go_roundw
        case rel => exact ⟨k + m, _, by omega, hm2, rfl, HR3.out, fun j hj => by
          unfold splV
          split
          · exact HALL.out _ (by omega)
          · exact HALL.out _ (by omega), HB3.out⟩
        case measure => simp [intOf]; omega
    · obtain rfl : k = n := by omega
      go_wp2
      go_ret
      exact ⟨_, rfl, Nat.le_refl _, HROW.out.congr HALL.out, HBL.out⟩
end Go.Proofs.Yteeomidlnijfbaa

/- Contracts: slices.Clone of rows, New. -/
namespace Go.Proofs.Yteeomidlnijfbaa
open Go.RowKit

def ClonePostV (w w' : World) (e : Ending) (n : Nat) (V : Nat → Value) : Prop :=
  ∃ g c V', e = .returned (.slice (some ⟨g, 0, none⟩) n c) ∧ w.heap.size ≤ g ∧ n ≤ c ∧ w'.rowIs g 35 c V' ∧ (∀ j, j < n → V' j = V j) ∧ Below w.heap.size w w'
theorem own_none35 (w : World) : (w.alloc (.cells #[] 35)).ownsRow w.heap.size 35 1 (.slice (some ⟨w.heap.size, 0, none⟩) 0 0) 0 [] :=
  World.ownsRow_lit w _ 0 (Nat.le_refl _) (by simp only [maxLen]; omega) rfl
set_option maxRecDepth 100000 in
set_option maxHeartbeats 1000000 in
theorem cloneR_any (g sz n c : Nat) (V : Nat → Value) (w : World) (hr : w.rowIs g 35 sz V) (h1 : 1 ≤ n) (h2 : n ≤ sz) (h3 : n ≤ 512) (hv : ∀ j, j < n → (V j).oneCell' = true) :
    Calls Try.prog 38 #[.slice (some ⟨g, 0, none⟩) n c] w fun e w' => ClonePostV w w' e n V := by
  have HR := Lib.hid hr
  have HS := Lib.hid (show ∀ j u, ((List.range n).map V)[j]? = some u → (w.alloc (.cells #[] 35)).cell? ((⟨g, 0, none⟩ : Addr).add j) = some u from fun j u hu => by
    obtain ⟨hj, rfl⟩ := rg_get hu
    rw [add_mk, Nat.zero_add]
    exact (hr.alloc _).cell (by omega))
  have HV := Lib.hid (show ∀ u ∈ (List.range n).map V, u.oneCell' = true from fun u hu => by
    simp at hu
    obtain ⟨j, hj, rfl⟩ := hu
    exact hv j hj)
  have hown := own_none35 w
  have hnil := Lib.run_eql_slice_nil (P := Try.prog) w 32 35 (some ⟨g, 0, none⟩) n c 0 0 Try.underlying32
  clear hr hv
  go_enter Try.func38, Try.ntmps38
  go_wp2_with (at_builtin; refine wpList_append_at rfl _ _ 32 rfl w.heap.size 35 (.slice none 0 0) 1 24 Try.underlying32 rows_info rfl (by omega) _ 0 [] rfl hown ⟨g, 0, none⟩ n c ((List.range n).map V) rfl (by simp) HS.out HV.out (by simp only [maxLen]; omega) (by omega) (by simp) ?_; intro v2 w5 hown2 hg2 hat2)
  clear hnil
  have HO := Lib.hid hown2
  have HB := Lib.hid ((below_new w (.cells #[] 35)).grown hg2 (by simp) fun k hk => by injection hk with hk; subst hk; exact Nat.le_refl _)
  clear hown hown2 hg2 hat2
  go_wp2
  go_ret
  have h2' := HO.out
  rw [Nat.zero_add, List.nil_append] at h2'
  obtain ⟨g', cap, V', rfl, e1, e2, e3, e4, e5⟩ := own_row h2' (by omega)
  exact ⟨g', cap, V', rfl, e1, e2, e4, fun j hj => by
    have := e5 j hj
    rw [List.getElem?_map, List.getElem?_range hj] at this
    simpa using this.symm, HB.out⟩

def DS.new (n : Nat) : DS := ⟨n, fun _ => some fun _ => 0, [], false, 0⟩
def DskAt (F : Nat → Prop) (w : World) (gd : Nat) (S : DS) : Prop := ∃ gt gs ct cs vp xs VT VS, Dk F w gd gt gs ct cs vp xs VT VS S
def NewPost (w w' : World) (e : Ending) (n : Nat) : Prop :=
  ∃ gd F, e = .returned (.tuple #[.pointer (some ⟨gd, 0, none⟩), .int .i64 0]) ∧ DskAt F w' gd (DS.new n) ∧ (∀ k, F k → w.heap.size ≤ k) ∧ Below w.heap.size w w'
theorem new_disk {w w1 w2 w3 : World} {o : Obj} {n gt gs cs : Nat} {VS : Nat → Value} (h1 : 1 ≤ n) (h2 : n ≤ 512) (hrow1 : w1.rowIs w.heap.size 5 64 fun _ => .int .u8 0) (hb1 : Below w.heap.size w w1) (hs1 : w1.heap.size = w.heap.size + 1)
    (hgt : (w1.alloc o).heap.size ≤ gt) (hrow2 : w2.rowIs gt 35 n fun _ => .slice (some ⟨w.heap.size, 0, none⟩) 64 64) (hb2 : Below (w1.alloc o).heap.size (w1.alloc o) w2)
    (hgs : w2.heap.size ≤ gs) (hcs : n ≤ cs) (hrow3 : w3.rowIs gs 35 cs VS) (hVS : ∀ j, j < n → VS j = .slice (some ⟨w.heap.size, 0, none⟩) 64 64) (hb3 : Below w2.heap.size w2 w3) :
    NewPost w (w3.alloc (.cells #[.slice (some ⟨gt, 0, none⟩) n n, .slice (some ⟨gs, 0, none⟩) n cs, .slice none 0 0, .bool false, .int .i64 0] 75)) (.returned (.tuple #[.pointer (some ⟨w3.heap.size, 0, none⟩), .int .i64 0])) n := by
  rw [World.size_alloc, hs1] at hgt
  have z1 : (w1.alloc o).heap.size = w.heap.size + 1 + 1 := by rw [World.size_alloc, hs1]
  have z2 := hb2.size
  have z3 := hb3.size
  have z4 := hrow2.lt
  have z5 := hrow3.lt
  have hbA : Below w.heap.size w w3 := ((hb1.alloc (by omega) o).trans (hb2.mono (by omega))).trans (hb3.mono (by omega))
  have hr3 : w3.rowIs w.heap.size 5 64 fun _ => .int .u8 0 := ((hrow1.alloc o).of_block (hb2.block _ (by omega))).of_block (hb3.block _ (by omega))
  have hsec : ∀ R : Nat → Prop, R w.heap.size → SecO R (w3.alloc (.cells #[.slice (some ⟨gt, 0, none⟩) n n, .slice (some ⟨gs, 0, none⟩) n cs, .slice none 0 0, .bool false, .int .i64 0] 75)) (.slice (some ⟨w.heap.size, 0, none⟩) 64 64) (some fun _ => 0) := fun R hR =>
    ⟨_, 0, 64, rfl, Nat.le_refl _, hR, fun j hj => by rw [Nat.zero_add]; exact (hr3.alloc _).cell hj, fun _ _ => (by decide : (0 : Nat) < 256)⟩
  refine ⟨w3.heap.size, fun k => w.heap.size ≤ k ∧ k < w3.heap.size + 1, rfl, ⟨gt, gs, n, cs, .slice none 0 0, [], fun _ => .slice (some ⟨w.heap.size, 0, none⟩) 64 64, VS, ?_⟩, fun k hk => hk.1, hbA.alloc (by omega) _⟩
  have hR : Rw (fun k => w.heap.size ≤ k ∧ k < w3.heap.size + 1) w3.heap.size gt gs (.slice none 0 0) w.heap.size := ⟨⟨Nat.le_refl _, by omega⟩, by omega, by omega, by omega, by simp [Value.ownBlock]⟩
  exact {
    box := World.rowIs_alloc w3 _ _ _ fun i hi => by
      simp at hi
      rcases (by omega : i = 0 ∨ i = 1 ∨ i = 2 ∨ i = 3 ∨ i = 4) with rfl | rfl | rfl | rfl | rfl <;> rfl
    th := (hrow2.of_block (hb3.block _ z4)).alloc _
    se := hrow3.alloc _
    pe := World.ownsRow_nil _ _ _ _
    hT := fun i _ => hsec _ hR
    hS := fun i hi => by rw [hVS i hi]; exact hsec _ hR
    hP := rfl
    n1 := h1
    n2 := h2
    nt := Nat.le_refl _
    ns := hcs
    lf := by simp [DS.new]
    dt := by omega
    ds := by omega
    ts := by omega
    px := fun k hk => by simp [Value.ownBlock] at hk
    fd := ⟨by omega, by omega⟩
    ft := ⟨by omega, by omega⟩
    fs := ⟨by omega, by omega⟩
    lt := fun k hk => by rw [World.size_alloc]; exact hk.2 }
set_option maxRecDepth 100000 in
set_option maxHeartbeats 1000000 in
theorem new_any (n : Nat) (w : World) (h1 : 1 ≤ n) (h2 : n ≤ 512) :
    Calls Try.prog 12 #[.int .i64 (n : Nat)] w fun e w' => NewPost w w' e n := by
  have d1 : decide ((n : Int) < 1) = false := by rw [decide_eq_false_iff_not]; omega
  have d2 : decide (512 < (n : Int)) = false := by rw [decide_eq_false_iff_not]; omega
  have QN := Lib.hid (show ∀ w1 : World, w1.heap.size = w.heap.size + 1 → (w1.alloc (.cells #[.slice (some ⟨w.heap.size, 0, none⟩) 64 64] 35)).cell? ⟨w.heap.size + 1, 0, none⟩ = some (.slice (some ⟨w.heap.size, 0, none⟩) 64 64) from fun w1 e => by rw [← e]; exact cell_one_new _ _ _ 0 _ rfl)
  go_enter Try.func12, Try.ntmps12
  go_wp2_with (first
    | (at_make; refine wpList_make_rowIs rfl _ _ 35 rfl 5 (.int .u8 0) 1 Try.underlying35 u8_info rfl .i64 .i64 _ _ 64 rfl rfl rfl rfl (by omega) (by omega) ?_; intro w1 hrow1 hb1 hs1)
    | (go_at_call 37; refine (repeat_any (w.heap.size + 1) n (.slice (some ⟨w.heap.size, 0, none⟩) 64 64) _ h1 h2 (QN.out _ hs1) rfl).mono ?_; rintro e w2 ⟨gt, rfl, hgt, hrow2, hb2⟩)
    | (go_at_call 38; refine (cloneR_any gt n n n _ _ hrow2 h1 (Nat.le_refl _) h2 (fun _ _ => rfl)).mono ?_; rintro e w3 ⟨gs, cs, VS, rfl, hgs, hcs, hrow3, hVS, hb3⟩))
  go_ret2
  exact new_disk h1 h2 hrow1 hb1 hs1 hgt hrow2 hb2 hgs hcs hrow3 hVS hb3
end Go.Proofs.Yteeomidlnijfbaa
