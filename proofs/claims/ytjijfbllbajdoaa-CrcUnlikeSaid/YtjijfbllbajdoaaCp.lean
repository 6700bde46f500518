/- The walk of CrcUnlike. -/
import Derived.Test.YtjijfbllbajdoaaCo
import Derived.Laws.StructEq
import Derived.Deep.RegionHeld3
import Derived.Deep.RegionLaw
namespace Go.Proofs.Ytjijfbllbajdoaa
open Go.ChangeShapes Go.WideShapes Go.ChangeAt Go.RowKit

theorem run_arr4 (d : Nat) (a0 a1 a2 a3 b0 b1 b2 b3 : Int) (w : World) :
    (Op.equalIn (d + 2) 38 (.agg #[.int .u8 a0, .int .u8 a1, .int .u8 a2, .int .u8 a3]) (.agg #[.int .u8 b0, .int .u8 b1, .int .u8 b2, .int .u8 b3])).run Try.prog w = .ok (a0 == b0 && (a1 == b1 && (a2 == b2 && a3 == b3))) w := by
  have hs : ∀ w, (sizeOf 5).run Try.prog w = .ok 1 w := fun w => by kernel_rfl
  have hi : ∀ w, (isAgg 5).run Try.prog w = .ok false w := fun w => by kernel_rfl
  have hr : List.range' 0 4 = [0, 1, 2, 3] := rfl
  have hq : ∀ (x y : Int) w, (Op.equalIn (d + 1) 5 (.int .u8 x) (.int .u8 y)).run Try.prog w = .ok (x == y) w := fun x y w => run_equalIn_int w d 5 .u8 .u8 x y Try.underlying5
  unfold Op.equalIn
  simp [run_underlying Try.underlying38, hs, part, hr, hi, hq]
  by_cases h0 : a0 = b0
  · by_cases h1 : a1 = b1
    · by_cases h2 : a2 = b2
      · by_cases h3 : a3 = b3 <;> simp [h0, h1, h2, h3]
      · simp [h0, h1, h2]
    · simp [h0, h1]
  · simp [h0]
theorem run_eql4 (a0 a1 a2 a3 b0 b1 b2 b3 : Int) (w : World) :
    (binOp .eql 38 (.agg #[.int .u8 a0, .int .u8 a1, .int .u8 a2, .int .u8 a3]) (.agg #[.int .u8 b0, .int .u8 b1, .int .u8 b2, .int .u8 b3])).run Try.prog w = .ok (.bool (a0 == b0 && (a1 == b1 && (a2 == b2 && a3 == b3)))) w := by
  rw [run_eql_struct, run_arr4 9998]
  rfl

/-- append of what may be nil, as one step of a region that draws its order. -/
theorem step_app {P : Program} {ops : Array Oper} {o : Oper} {a : Act} {w : World} {KK : Act → World → Prop} {Q : Exit → Act → World → Prop} {E : Prop} (hgd : o.guard = none) (s x : Operand) (t : TypeId)
    (ho : o.op = .call { callee := .builtin .append, args := #[s, x], argTypes := #[t, t] })
    (K : IntKind) (e : TypeId) (ht : P.underlying t = some (.slice e)) (bytes : Nat) (hinfo : (P.info? e).map (fun i => (i.zero, i.size, i.bytes)) = some (some (.int K 0), 1, bytes)) (hby : bytes ≤ 8)
    (base : Nat) (v : Value) (n : Nat) (f : Nat → Nat) (hs : a.eval s = v) (hown : Own K e w base v n f)
    (A : Option Addr) (m c : Nat) (g : Nat → Nat) (hx : a.eval x = .slice A m c) (hr : Rd K w A m g) (hA : A = none → m = 0 ∧ c = 0)
    (hnm : n + m ≤ 17592186044416) (hbase : base ≤ w.heap.size)
    (h : ∀ v' w', Own K e w' base v' (n + m) (appF f n g) → Below base w w' → w.heap.size ≤ w'.heap.size → KK (a.put o.dst v') w') :
    if Region.wanted o (yielded ops a.tmps) = true then Oper.wp P o a w KK Q else E := by
  rcases A with _ | ad
  · obtain ⟨rfl, rfl⟩ := hA rfl
    have hw : Region.wanted o (yielded ops a.tmps) = true := by simp [Region.wanted, hgd]
    rw [if_pos hw]
    obtain ⟨i, hi, _, hz1, _⟩ := info_parts hinfo
    have hrun := run_append_owned_none (P := P) (w := w) base t o.type e i 1 ht hi v n _ hown
    unfold Oper.wp
    simp [execOp, ho, resolve, invoke, builtin, hs, hx, hrun, Result.andThen]
    exact h v w (hown.congr fun j hj => by simp [appF, hj]) (Below.refl _ _) (Nat.le_refl _)
  · exact step_app_at hgd s x t ho K e ht bytes hinfo hby base v n f hs hown ad m c g hx hr hnm hbase fun v' w' h1 h2 _ =>
      h v' w' h1 ((Below.refl _ _).grown h2 hbase fun k hk => (World.ownsRow.lt hown k hk).1) h2.size

theorem bdrew {w w' : World} (hb : Below w.drew.heap.size w.drew w') : Below w.heap.size w w' := ⟨hb.os, hb.tape, hb.output, hb.size, hb.block⟩
def f4 (e0 e1 e2 e3 : Nat) : Nat → Nat := fun j => if j = 0 then e0 else if j = 1 then e1 else if j = 2 then e2 else e3
theorem f4_lt {e0 e1 e2 e3 : Nat} (h : e0 < 256 ∧ e1 < 256 ∧ e2 < 256 ∧ e3 < 256) (j : Nat) : f4 e0 e1 e2 e3 j < 256 := by
  obtain ⟨h0, h1, h2, h3⟩ := h
  unfold f4
  split
  · exact h0
  · split
    · exact h1
    · split
      · exact h2
      · exact h3
theorem row_four (w : World) (e0 e1 e2 e3 : Nat) : Row .u8 38 (w.alloc (.cells #[.int .u8 (e0 : Nat), .int .u8 (e1 : Nat), .int .u8 (e2 : Nat), .int .u8 (e3 : Nat)] 38)) w.heap.size 4 (f4 e0 e1 e2 e3) :=
  row_new w _ 4 _ rfl fun j hj => by
    have : j = 0 ∨ j = 1 ∨ j = 2 ∨ j = 3 := by omega
    rcases this with rfl | rfl | rfl | rfl <;> rfl
set_option maxRecDepth 100000 in
theorem four_open {H : Type} {enc : TypeId × Value → H} {W : World} {base b0 : Nat} {held : Bool} {r : Reach} {v : Value} {d : DataW H} {p : List MemPlace} (hv : Value.okWide Try.prog W r b0 38 v) (h : DataW.Trod enc Try.prog W base (fun _ => true) held 38 v d p) :
    ∃ (e0 e1 e2 e3 : Nat), v = .agg #[.int .u8 (e0 : Nat), .int .u8 (e1 : Nat), .int .u8 (e2 : Nat), .int .u8 (e3 : Nat)] ∧ e0 < 256 ∧ e1 < 256 ∧ e2 < 256 ∧ e3 < 256 := by
  have hv' := hv
  simp only [Value.okWide, Try.underlying38] at hv'
  obtain ⟨cs, rfl, hn, _⟩ := hv'
  have h4 : Try.prog.cellsOf 38 = 4 := by kernel_rfl
  rw [h4] at hn
  obtain ⟨fuel, hf⟩ := h
  obtain ⟨l, rfl⟩ : ∃ l : List Value, cs = l.toArray := ⟨cs.toList, rfl⟩
  match l, hn with
  | [c0, c1, c2, c3], _ =>
    simp only [Value.cells] at hf
    obtain ⟨y0, y1, y2, y3, m, _, h0, h1, h2, h3⟩ := trod_array4 Try.underlying38 cells8 hf
    obtain ⟨x0, e0, _, f0⟩ := DataW.trod_int Try.underlying5 h0
    obtain ⟨x1, e1, _, f1⟩ := DataW.trod_int Try.underlying5 h1
    obtain ⟨x2, e2, _, f2⟩ := DataW.trod_int Try.underlying5 h2
    obtain ⟨x3, e3, _, f3⟩ := DataW.trod_int Try.underlying5 h3
    simp at e0 e1 e2 e3
    subst e0 e1 e2 e3
    obtain ⟨n0, rfl, l0⟩ := u8_of f0
    obtain ⟨n1, rfl, l1⟩ := u8_of f1
    obtain ⟨n2, rfl, l2⟩ := u8_of f2
    obtain ⟨n3, rfl, l3⟩ := u8_of f3
    exact ⟨n0, n1, n2, n3, rfl, l0, l1, l2, l3⟩

theorem f4_num (e0 e1 e2 e3 : Nat) : num 256 (f4 e0 e1 e2 e3) 4 = e0 + e1 * 256 + e2 * 65536 + e3 * 16777216 := by simp [num, f4]
theorem appF_lt {f g : Nat → Nat} {n m : Nat} (hf : ∀ j, j < n → f j < 256) (hg : ∀ j, j < m → g j < 256) : ∀ j, j < n + m → appF f n g j < 256 := fun j hj => by
  unfold appF
  split
  · exact hf j (by omega)
  · exact hg _ (by omega)
/-- Two rows that differ in four bytes, and the same behind. -/
theorem unlike_at {f t : Nat → Nat} {n m a0 a1 a2 a3 b0 b1 b2 b3 : Nat} (hf : ∀ j, j < n → f j < 256) (ht : ∀ j, j < m → t j < 256) (ha : a0 < 256 ∧ a1 < 256 ∧ a2 < 256 ∧ a3 < 256) (hb : b0 < 256 ∧ b1 < 256 ∧ b2 < 256 ∧ b3 < 256) :
    crcN (appF (appF f n (f4 b0 b1 b2 b3)) (n + 4) t) (n + 4 + m) = crcN (appF (appF f n (f4 a0 a1 a2 a3)) (n + 4) t) (n + 4 + m) ↔ (a0 = b0 ∧ a1 = b1 ∧ a2 = b2 ∧ a3 = b3) := by
  have hA : ∀ j, j < 4 → f4 a0 a1 a2 a3 j < 256 := fun j _ => f4_lt ha j
  have hB : ∀ j, j < 4 → f4 b0 b1 b2 b3 j < 256 := fun j _ => f4_lt hb j
  have hX := appF_lt hf hA
  have hY := appF_lt hf hB
  have hx : num 256 (f4 a0 a1 a2 a3) 4 ^^^ num 256 (f4 b0 b1 b2 b3) 4 < 4294967296 := Nat.xor_lt_two_pow (n := 32) (num4_lt hA (Nat.le_refl _)) (num4_lt hB (Nat.le_refl _))
  have e : num 256 (appF (appF f n (f4 b0 b1 b2 b3)) (n + 4) t) (n + 4 + m) = num 256 (appF (appF f n (f4 a0 a1 a2 a3)) (n + 4) t) (n + 4 + m) ^^^ ((num 256 (f4 a0 a1 a2 a3) 4 ^^^ num 256 (f4 b0 b1 b2 b3) 4) * 2 ^ (8 * n)) := by
    rw [num_appx hX, num_appx hY, num_appx hf, num_appx hf, mul_xor]
    generalize num 256 f n = p
    generalize num 256 (f4 a0 a1 a2 a3) 4 * 2 ^ (8 * n) = q
    generalize num 256 (f4 b0 b1 b2 b3) 4 * 2 ^ (8 * n) = r
    generalize num 256 t m * 2 ^ (8 * (n + 4)) = u
    apply Nat.eq_of_testBit_eq
    intro j
    simp only [Nat.testBit_xor]
    cases p.testBit j <;> cases q.testBit j <;> cases r.testBit j <;> cases u.testBit j <;> rfl
  rw [crcN_at (appF_lt hX ht) (appF_lt hY ht) hx (by omega) e, xor_none, f4_num, f4_num]
  omega
theorem unlike_end {f : Nat → Nat} {n a0 a1 a2 a3 b0 b1 b2 b3 : Nat} (hf : ∀ j, j < n → f j < 256) (ha : a0 < 256 ∧ a1 < 256 ∧ a2 < 256 ∧ a3 < 256) (hb : b0 < 256 ∧ b1 < 256 ∧ b2 < 256 ∧ b3 < 256) :
    crcN (appF f n (f4 b0 b1 b2 b3)) (n + 4) = crcN (appF f n (f4 a0 a1 a2 a3)) (n + 4) ↔ (a0 = b0 ∧ a1 = b1 ∧ a2 = b2 ∧ a3 = b3) := by
  have h := unlike_at (t := fun _ => 0) (m := 0) hf (fun j hj => absurd hj (by omega)) ha hb
  rw [Nat.add_zero] at h
  rw [← h, crcN_congr (f := appF (appF f n (f4 b0 b1 b2 b3)) (n + 4) fun _ => 0) (g := appF f n (f4 b0 b1 b2 b3)) fun j hj => by simp [appF, hj],
    crcN_congr (f := appF (appF f n (f4 a0 a1 a2 a3)) (n + 4) fun _ => 0) (g := appF f n (f4 a0 a1 a2 a3)) fun j hj => by simp [appF, hj]]
def eq4 (a0 a1 a2 a3 b0 b1 b2 b3 : Nat) : Bool := ((a0 : Int) == (b0 : Int)) && (((a1 : Int) == (b1 : Int)) && (((a2 : Int) == (b2 : Int)) && ((a3 : Int) == (b3 : Int))))
theorem eq4_iff {a0 a1 a2 a3 b0 b1 b2 b3 S T : Nat} (h : T = S ↔ (a0 = b0 ∧ a1 = b1 ∧ a2 = b2 ∧ a3 = b3)) : ((S : Int) == (T : Int)) = eq4 a0 a1 a2 a3 b0 b1 b2 b3 := by
  unfold eq4
  rw [Bool.eq_iff_iff]
  simp only [beq_iff_eq, Bool.and_eq_true, Int.natCast_inj]
  rw [eq_comm, h]

/-- What lies about: the four rows, both boxes. -/
def Bag (w0 w : World) (g : Nat) (vx vy vz vw : Value) (n m : Nat) (X Y Z W FA FB : Nat → Nat) : Prop :=
  Byt w vx n X ∧ Byt w vy n Y ∧ Byt w vz m Z ∧ Byt w vw m W ∧ Row .u8 38 w g 4 FA ∧ Row .u8 38 w (g + 1) 4 FB ∧ Below w0.heap.size w0 w
theorem Bag.below {w0 w w' : World} {g : Nat} {vx vy vz vw : Value} {n m : Nat} {X Y Z W FA FB : Nat → Nat} (h : Bag w0 w g vx vy vz vw n m X Y Z W FA FB) (hb : Below w.heap.size w w') : Bag w0 w' g vx vy vz vw n m X Y Z W FA FB := by
  obtain ⟨h1, h2, h3, h4, h5, h6, h7⟩ := h
  exact ⟨h1.below hb, h2.below hb, h3.below hb, h4.below hb, h5.keep hb, h6.keep hb, bbt h7 hb⟩
theorem Bag.drew {w0 w : World} {g : Nat} {vx vy vz vw : Value} {n m : Nat} {X Y Z W FA FB : Nat → Nat} (h : Bag w0 w g vx vy vz vw n m X Y Z W FA FB) : Bag w0 w.drew g vx vy vz vw n m X Y Z W FA FB := by
  obtain ⟨h1, h2, h3, h4, h5, h6, h7⟩ := h
  exact ⟨h1.drew, h2.drew, h3.drew, h4.drew, h5.drew, h6.drew, Below.drew_ h7⟩
def Boxes (w : World) (g a0 a1 a2 a3 b0 b1 b2 b3 : Nat) : Prop :=
  w.cell? ⟨g, 0, none⟩ = some (.int .u8 (a0 : Nat)) ∧ w.cell? ⟨g, 1, none⟩ = some (.int .u8 (a1 : Nat)) ∧ w.cell? ⟨g, 2, none⟩ = some (.int .u8 (a2 : Nat)) ∧ w.cell? ⟨g, 3, none⟩ = some (.int .u8 (a3 : Nat)) ∧
  w.cell? ⟨g + 1, 0, none⟩ = some (.int .u8 (b0 : Nat)) ∧ w.cell? ⟨g + 1, 1, none⟩ = some (.int .u8 (b1 : Nat)) ∧ w.cell? ⟨g + 1, 2, none⟩ = some (.int .u8 (b2 : Nat)) ∧ w.cell? ⟨g + 1, 3, none⟩ = some (.int .u8 (b3 : Nat))
theorem Bag.boxes {w0 w : World} {g : Nat} {vx vy vz vw : Value} {n m : Nat} {X Y Z W : Nat → Nat} {a0 a1 a2 a3 b0 b1 b2 b3 : Nat} (h : Bag w0 w g vx vy vz vw n m X Y Z W (f4 a0 a1 a2 a3) (f4 b0 b1 b2 b3)) : Boxes w g a0 a1 a2 a3 b0 b1 b2 b3 := by
  obtain ⟨_, _, _, _, h5, h6, _⟩ := h
  exact ⟨h5.cell (j := 0) (by omega), h5.cell (j := 1) (by omega), h5.cell (j := 2) (by omega), h5.cell (j := 3) (by omega), h6.cell (j := 0) (by omega), h6.cell (j := 1) (by omega), h6.cell (j := 2) (by omega), h6.cell (j := 3) (by omega)⟩

set_option maxHeartbeats 2000000 in
theorem crcUnlike_out (A : Option Addr) (n c : Nat) (a0 a1 a2 a3 b0 b1 b2 b3 : Nat) (w : World) (hn : 1000 < n) (hn2 : n ≤ 9223372036854775807) :
    Calls Try.prog 7 #[.slice A n c, .agg #[.int .u8 (a0 : Nat), .int .u8 (a1 : Nat), .int .u8 (a2 : Nat), .int .u8 (a3 : Nat)], .agg #[.int .u8 (b0 : Nat), .int .u8 (b1 : Nat), .int .u8 (b2 : Nat), .int .u8 (b3 : Nat)]] w fun e w' => e = .returned (.bool true) ∧ Below w.heap.size w w' := by
  go_enter Try.func7, Try.ntmps7
  go_wp2_with fail
  refine (awake_any _).mono ?_
  rintro e w1 ⟨rfl, hb1⟩
  have HB1 := Lib.hid ((((Below.refl w.heap.size w).alloc (Nat.le_refl _) _).alloc (by simp) _).trans (hb1.mono (by simp; omega)))
  clear hb1
  go_wp2
  go_ret
  exact ⟨rfl, HB1.out⟩

set_option maxRecDepth 20000 in
set_option maxHeartbeats 4000000 in
theorem crcUnlike_in (A : Option Addr) (n c : Nat) (f : Nat → Nat) (a0 a1 a2 a3 b0 b1 b2 b3 : Nat) (w : World) (hb : Byt w (.slice A n c) n f) (hA : A = none → n = 0 ∧ c = 0) (hn : n ≤ 1000)
    (ha : a0 < 256 ∧ a1 < 256 ∧ a2 < 256 ∧ a3 < 256) (hb4 : b0 < 256 ∧ b1 < 256 ∧ b2 < 256 ∧ b3 < 256) :
    Calls Try.prog 7 #[.slice A n c, .agg #[.int .u8 (a0 : Nat), .int .u8 (a1 : Nat), .int .u8 (a2 : Nat), .int .u8 (a3 : Nat)], .agg #[.int .u8 (b0 : Nat), .int .u8 (b1 : Nat), .int .u8 (b2 : Nat), .int .u8 (b3 : Nat)]] w fun e w' => e = .returned (.bool true) ∧ Below w.heap.size w w' := by
  have HB := Lib.hid hb
  have HA := Lib.hid hA
  have H4A := Lib.hid ha
  have H4B := Lib.hid hb4
  have HF := Lib.hid hb.lt
  clear hb hA ha hb4
  go_enter Try.func7, Try.ntmps7
  go_wp2_with fail
  refine (awake_any _).mono ?_
  rintro e w1 ⟨rfl, hb1⟩
  have ra := Lib.hid (row_four (w.alloc (.cells #[.int .u8 (a0 : Nat), .int .u8 (a1 : Nat), .int .u8 (a2 : Nat), .int .u8 (a3 : Nat)] 38)) b0 b1 b2 b3)
  have HRB := Lib.hid (show Row .u8 38 w1 (w.heap.size + 1) 4 (f4 b0 b1 b2 b3) from by
    have h := ra.out.keep hb1
    rwa [show (w.alloc (.cells #[.int .u8 (a0 : Nat), .int .u8 (a1 : Nat), .int .u8 (a2 : Nat), .int .u8 (a3 : Nat)] 38)).heap.size = w.heap.size + 1 from by simp] at h)
  have HRA := Lib.hid (((row_four w a0 a1 a2 a3).keep (below_new _ _)).keep hb1)
  have hbb : Below w.heap.size w w1 := (((Below.refl w.heap.size w).alloc (Nat.le_refl _) _).alloc (by simp) _).trans (hb1.mono (by simp; omega))
  have HB1 := Lib.hid hbb
  have hzz : w.heap.size + 1 < w1.heap.size := by have := hb1.size; simp at this; omega
  have HBY1 := Lib.hid (HB.out.below hbb)
  clear hb1 hbb ra
  go_wp2
  obtain ⟨A', c', hv, hcc, hrr, hff⟩ := HBY1.out
  injection hv with hv1 hv2 hv3
  subst hv1 hv3
  have hbn := below_new w1.drew (.cells #[] 5)
  have HR1 := Lib.hid (hrr.drew.below hbn)
  clear hrr hff hcc hv2
  go_region_law (first
    | (
      refine step_app rfl (.tmp 16) (.tmp 17) 22 rfl .u8 5 Try.underlying22 1 u8_info (by omega) w1.heap.size (.slice (some ⟨w1.heap.size, 0, none⟩) 0 0) 0 f (by simp [Act.eval]) (own_none8 w1.drew f) A n c f (by simp [Act.eval]) HR1.out HA.out (by omega) (by simp) ?_
      intro v2 w2 ho2 hb2 hs2)
    | (
      refine step_app rfl (.tmp 18) (.tmp 19) 22 rfl .u8 5 Try.underlying22 1 u8_info (by omega) w1.heap.size v2 (0 + n) (appF f 0 f) (by simp [Act.eval]) ho2 (some ⟨w.heap.size, 0, none⟩) 4 4 (f4 a0 a1 a2 a3) (by simp [Act.eval]) ((HRA.out.drew.below (hbn.trans hb2) (by simp; omega)).rd0 (Nat.le_refl _)) (fun h => by cases h) (by omega) (by simp at hs2; omega) ?_
      intro v3 w3 ho3 hb3 hs3))
  have HO3 := Lib.hid (show Own .u8 5 w3 w1.heap.size v3 (n + 4) (appF f n (f4 a0 a1 a2 a3)) from by
    rw [Nat.zero_add] at ho3
    exact ho3.congr fun j _ => by simp [appF])
  have HB3 := Lib.hid ((below_new w1.drew (.cells #[] 5)).trans (hb2.trans hb3))
  have hz3 : w1.heap.size ≤ w3.heap.size := HB3.out.size
  have HFX := Lib.hid (appF_lt HF.out fun j (_ : j < 4) => f4_lt H4A.out j)
  have HFY := Lib.hid (appF_lt HF.out fun j (_ : j < 4) => f4_lt H4B.out j)
  have HX3 := Lib.hid (own_byt HO3.out HFX.out)
  have HRB3 := Lib.hid ((HRB.out.drew).below HB3.out (by simp; omega))
  have HRA3 := Lib.hid ((HRA.out.drew).below HB3.out (by simp; omega))
  have HBY3 := Lib.hid (HBY1.out.drew.below HB3.out)
  have HBA3 := Lib.hid (show Below w.heap.size w w3 from HB1.out.trans ((show Below w1.heap.size w1 w3 from ⟨HB3.out.os, HB3.out.tape, HB3.out.output, HB3.out.size, HB3.out.block⟩).mono (by omega)))
  clear ho2 hb2 hs2 ho3 hb3 hs3 hbn HR1 HO3
  go_wp2
  obtain ⟨A', c', hv, hcc, hrr, hff⟩ := HBY3.out
  injection hv with hv1 hv2 hv3
  subst hv1 hv3
  have hbn := below_new w3.drew (.cells #[] 5)
  have HR1 := Lib.hid (hrr.drew.below hbn)
  clear hrr hff hcc hv2
  go_region_law (first
    | (
      refine step_app rfl (.tmp 21) (.tmp 22) 22 rfl .u8 5 Try.underlying22 1 u8_info (by omega) w3.heap.size (.slice (some ⟨w3.heap.size, 0, none⟩) 0 0) 0 f (by simp [Act.eval]) (own_none8 w3.drew f) A n c f (by simp [Act.eval]) HR1.out HA.out (by omega) (by simp) ?_
      intro v4 w4 ho4 hb4 hs4)
    | (
      refine step_app rfl (.tmp 23) (.tmp 24) 22 rfl .u8 5 Try.underlying22 1 u8_info (by omega) w3.heap.size v4 (0 + n) (appF f 0 f) (by simp [Act.eval]) ho4 (some ⟨w.heap.size + 1, 0, none⟩) 4 4 (f4 b0 b1 b2 b3) (by simp [Act.eval]) ((HRB3.out.drew.below (hbn.trans hb4) (by simp; omega)).rd0 (Nat.le_refl _)) (fun h => by cases h) (by omega) (by simp at hs4; omega) ?_
      intro v5 w5 ho5 hb5 hs5))
  have HB5 := Lib.hid ((below_new w3.drew (.cells #[] 5)).trans (hb4.trans hb5))
  have HBB5 := Lib.hid (show Below w3.heap.size w3 w5 from ⟨HB5.out.os, HB5.out.tape, HB5.out.output, HB5.out.size, HB5.out.block⟩)
  have HY5 := Lib.hid (own_byt (show Own .u8 5 w5 w3.heap.size v5 (n + 4) (appF f n (f4 b0 b1 b2 b3)) from by
    rw [Nat.zero_add] at ho5
    exact ho5.congr fun j _ => by simp [appF]) HFY.out)
  have HX5 := Lib.hid (HX3.out.below HBB5.out)
  have HRB5 := Lib.hid (HRB3.out.keep HBB5.out)
  have HRA5 := Lib.hid (HRA3.out.keep HBB5.out)
  have HBY5 := Lib.hid (HBY3.out.below HBB5.out)
  have HBA5 := Lib.hid (bbt HBA3.out HBB5.out)
  have HU1 := Lib.hid (unlike_end HF.out H4A.out H4B.out)
  have HU2 := Lib.hid (unlike_at (t := f) (m := n) HF.out HF.out H4A.out H4B.out)
  have HFZ := Lib.hid (appF_lt HFX.out HF.out)
  have HFW := Lib.hid (appF_lt HFY.out HF.out)
  clear ho4 hb4 hs4 ho5 hb5 hs5 hbn HR1 HB5 HBB5 HX3 HRB3 HRA3 HBY3 HBA3 HB3 HRA HRB HBY1
  generalize appF f n (f4 a0 a1 a2 a3) = X at *
  generalize appF f n (f4 b0 b1 b2 b3) = Y at *
  obtain ⟨gx, cx, rfl, hcx, hrx, _⟩ := HX5.out
  obtain ⟨ax, rfl, _⟩ := hrx.some_ (by omega)
  obtain ⟨gy, cy, rfl, hcy, hry, _⟩ := HY5.out
  obtain ⟨ay, rfl, _⟩ := hry.some_ (by omega)
  obtain ⟨A', c', hv, _, hrr, _⟩ := HBY5.out
  injection hv with hv1 hv2 hv3
  subst hv1 hv3
  have HRX := Lib.hid hrx
  have HRY := Lib.hid hry
  have HRR := Lib.hid hrr
  clear hrx hry hrr hv2 hcx hcy
  go_wp2_with (first
    | (
      at_builtin
      refine wpList_app rfl (.tmp 26) (.tmp 27) 22 rfl .u8 5 Try.underlying22 1 u8_info (by omega) w5.heap.size _ 0 X rfl (own_none8 w5 X) (some ax) (n + 4) cx X rfl (HRX.out.below (below_new w5 _)) (fun h => by cases h) (by omega) (by simp) ?_
      intro v6 w6 ho6 hb6 hs6
      have HB6 := Lib.hid ((below_new w5 (.cells #[] 5)).trans hb6)
      have hz6 := HB6.out.size
      clear hs6 hb6)
    | (
      at_builtin
      refine wpList_app rfl (.tmp 28) (.tmp 29) 22 rfl .u8 5 Try.underlying22 1 u8_info (by omega) w5.heap.size _ (0 + (n + 4)) (appF X 0 X) rfl ho6 A n c f rfl (HRR.out.below HB6.out) HA.out (by omega) hz6 ?_
      intro v7 w7 ho7 hb7 hs7
      have HB7 := Lib.hid (HB6.out.trans hb7)
      have HZ7 := Lib.hid (own_byt (show Own .u8 5 w7 w5.heap.size v7 (n + 4 + n) (appF X (n + 4) f) from by
        rw [Nat.zero_add] at ho7
        exact ho7.congr fun j _ => by simp [appF]) HFZ.out)
      clear ho6 ho7 hs7 hb7 hz6)
    | (
      at_builtin
      refine wpList_app rfl (.tmp 31) (.tmp 32) 22 rfl .u8 5 Try.underlying22 1 u8_info (by omega) w7.heap.size _ 0 Y rfl (own_none8 w7 Y) (some ay) (n + 4) cy Y rfl ((HRY.out.below HB7.out).below (below_new w7 _)) (fun h => by cases h) (by omega) (by simp) ?_
      intro v8 w8 ho8 hb8 hs8
      have HB8 := Lib.hid ((below_new w7 (.cells #[] 5)).trans hb8)
      have hz8 := HB8.out.size
      clear hs8 hb8)
    | (
      at_builtin
      refine wpList_app rfl (.tmp 33) (.tmp 34) 22 rfl .u8 5 Try.underlying22 1 u8_info (by omega) w7.heap.size _ (0 + (n + 4)) (appF Y 0 Y) rfl ho8 A n c f rfl ((HRR.out.below HB7.out).below HB8.out) HA.out (by omega) hz8 ?_
      intro v9 w9 ho9 hb9 hs9
      have HB9 := Lib.hid (HB8.out.trans hb9)
      have HW9 := Lib.hid (own_byt (show Own .u8 5 w9 w7.heap.size v9 (n + 4 + n) (appF Y (n + 4) f) from by
        rw [Nat.zero_add] at ho9
        exact ho9.congr fun j _ => by simp [appF]) HFW.out)
      clear ho8 ho9 hs9 hb9 hz8))
  have HB59 := Lib.hid (bbt HB7.out HB9.out)
  have HBag := Lib.hid (show Bag w w9 w.heap.size (.slice (some ax) (n + 4) cx) (.slice (some ay) (n + 4) cy) v7 v9 (n + 4) (n + 4 + n) X Y (appF X (n + 4) f) (appF Y (n + 4) f) (f4 a0 a1 a2 a3) (f4 b0 b1 b2 b3) from
    ⟨HX5.out.below HB59.out, HY5.out.below HB59.out, HZ7.out.below HB9.out, HW9.out, HRA5.out.keep HB59.out, HRB5.out.keep HB59.out, bbt HBA5.out HB59.out⟩)
  clear HB59 HX5 HY5 HZ7 HW9 HRA5 HRB5 HBA5 HB6 HB7 HB8 HB9 HRX HRY HRR HBY5
  have hE1 := eq4_iff HU1.out
  have hE2 := eq4_iff HU2.out
  have hEq := run_eql4 a0 a1 a2 a3 b0 b1 b2 b3
  have hEe : (((a0 : Int) == (b0 : Int)) && (((a1 : Int) == (b1 : Int)) && (((a2 : Int) == (b2 : Int)) && ((a3 : Int) == (b3 : Int))))) = eq4 a0 a1 a2 a3 b0 b1 b2 b3 := rfl
  rw [hEe] at hEq
  clear hEe
  generalize eq4 a0 a1 a2 a3 b0 b1 b2 b3 = E at *
  generalize appF X (n + 4) f = Z at *
  generalize appF Y (n + 4) f = W at *
  have S1 := Lib.hid (fun w0 (h : Byt w0 (.slice (some ax) (n + 4) cx) (n + 4) X) => sum_b h (by omega))
  have S2 := Lib.hid (fun w0 (h : Byt w0 (.slice (some ay) (n + 4) cy) (n + 4) Y) => sum_b h (by omega))
  have S3 := Lib.hid (fun w0 (h : Byt w0 v7 (n + 4 + n) Z) => sum_b h (by omega))
  have S4 := Lib.hid (fun w0 (h : Byt w0 v9 (n + 4 + n) W) => sum_b h (by omega))
  clear HU1 HU2 HFX HFY HFZ HFW
  generalize crcN X (n + 4) = sx at *
  generalize crcN Y (n + 4) = sy at *
  generalize crcN Z (n + 4 + n) = sz at *
  generalize crcN W (n + 4 + n) = sw at *
  have G1 := Lib.hid HBag.out.1
  have tok1 : True := trivial
  have tok2 : True := trivial
  have tok3 : True := trivial
  have tok4 : True := trivial
  have bx := HBag.out.boxes
  obtain ⟨p0, p1, p2, p3, q0, q1, q2, q3⟩ := bx
  go_region_held3 (fun w' => w'.cell? ⟨w.heap.size, 0, none⟩ = some (.int .u8 (a0 : Nat)) ∧ w'.cell? ⟨w.heap.size, 1, none⟩ = some (.int .u8 (a1 : Nat)) ∧ w'.cell? ⟨w.heap.size, 2, none⟩ = some (.int .u8 (a2 : Nat)) ∧ w'.cell? ⟨w.heap.size, 3, none⟩ = some (.int .u8 (a3 : Nat)) ∧ w'.cell? ⟨w.heap.size + 1, 0, none⟩ = some (.int .u8 (b0 : Nat)) ∧ w'.cell? ⟨w.heap.size + 1, 1, none⟩ = some (.int .u8 (b1 : Nat)) ∧ w'.cell? ⟨w.heap.size + 1, 2, none⟩ = some (.int .u8 (b2 : Nat)) ∧ w'.cell? ⟨w.heap.size + 1, 3, none⟩ = some (.int .u8 (b3 : Nat))) (first | exact HBag4.out.boxes | exact HBag3.out.boxes | exact HBag2.out.boxes | exact HBag1.out.boxes | exact HBag.out.drew.boxes | exact HBag.out.boxes | trivial | go_keep)
    (first
      | (go_at_call 12; have _t := tok1; clear _t tok1; ((with_reducible refine Calls.mono (S1.out _ (by first | exact G1.out | exact G1.out.drew)) ?_)); rintro e w11 ⟨rfl, hb⟩; have HBag1 := Lib.hid (HBag.out.below (by first | exact hb | exact bdrew hb)); have G2 := Lib.hid HBag1.out.2.1; clear hb)
      | (go_at_call 12; have _t := tok2; clear _t tok2; ((with_reducible refine Calls.mono (S2.out _ (by first | exact G2.out | exact G2.out.drew)) ?_)); rintro e w12 ⟨rfl, hb⟩; have HBag2 := Lib.hid (HBag1.out.below (by first | exact hb | exact bdrew hb)); have G3 := Lib.hid HBag2.out.2.2.1; clear hb)
      | (go_at_call 12; have _t := tok3; clear _t tok3; ((with_reducible refine Calls.mono (S3.out _ (by first | exact G3.out | exact G3.out.drew)) ?_)); rintro e w13 ⟨rfl, hb⟩; have HBag3 := Lib.hid (HBag2.out.below (by first | exact hb | exact bdrew hb)); have G4 := Lib.hid HBag3.out.2.2.2.1; clear hb)
      | (go_at_call 12; have _t := tok4; clear _t tok4; ((with_reducible refine Calls.mono (S4.out _ (by first | exact G4.out | exact G4.out.drew)) ?_)); rintro e w14 ⟨rfl, hb⟩; have HBag4 := Lib.hid (HBag3.out.below (by first | exact hb | exact bdrew hb)); clear hb))
  go_wp2
  go_ret
  exact ⟨rfl, HBag4.out.2.2.2.2.2.2⟩
end Go.Proofs.Ytjijfbllbajdoaa
