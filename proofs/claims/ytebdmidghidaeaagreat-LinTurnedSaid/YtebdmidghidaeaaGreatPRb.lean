/- Contracts of ratio: zero, isZero, May, taken, lowest. -/
import Derived.Test.YtebdmidghidaeaaGreatPRa
namespace Go.Proofs.YtebdmidghidaeaaGreat
open Go.RowKit
set_option linter.unusedVariables false

/-- A value that is no limb. -/
def Nu (x : Value) : Prop := ∀ z, x ≠ .int .u32 z
theorem nu_bool (b : Bool) : Nu (.bool b) := fun z e => by cases e
theorem nu_slice (A : Option Addr) (n c : Nat) : Nu (.slice A n c) := fun z e => by cases e
theorem nu_i64 (x : Int) : Nu (.int .i64 x) := fun z e => by cases e
class IsNu (x : Value) : Prop where out : Nu x
instance (b : Bool) : IsNu (.bool b) := ⟨nu_bool b⟩
instance (A : Option Addr) (n c : Nat) : IsNu (.slice A n c) := ⟨nu_slice A n c⟩
instance (x : Int) : IsNu (.int .i64 x) := ⟨nu_i64 x⟩
theorem nu {x : Value} [h : IsNu x] : Nu x := h.out
section
variable {k : Nat} {w : World} {A : Option Addr} {n g : Nat} {f : Nat → Nat} {t : TypeId} {v x0 x1 x2 x3 y0 y1 y2 y3 : Value} {N : Nat} {X Y : Int} {q : Rat}
theorem Rd.one (h : Rd .u32 w A n f) {cs : Array Value} {i : Nat} {x y : Value} (hk : Blk w g t cs) (hi : cs[i]? = some x) (hx : Nu x) : Rd .u32 (w.setCell ⟨g, i, none⟩ y) A n f :=
  h.apart ((hk.cell i).trans hi) hx y
theorem Rd.otherW (h : Rd .u32 w A n f) (hk : Blk w g t #[x0, x1]) (n0 : Nu x0) (n1 : Nu x1) : Rd .u32 ((w.setCell ⟨g, 0, none⟩ y0).setCell ⟨g, 1, none⟩ y1) A n f :=
  (h.one hk (i := 0) rfl n0).one (hk.set_ 0 y0) (i := 1) (x := x1) rfl n1
theorem Rd.other4 (h : Rd .u32 w A n f) (hk : Blk w g t #[x0, x1, x2, x3]) (n0 : Nu x0) (n1 : Nu x1) (n2 : Nu x2) (n3 : Nu x3) : Rd .u32 ((((w.setCell ⟨g, 0, none⟩ y0).setCell ⟨g, 1, none⟩ y1).setCell ⟨g, 2, none⟩ y2).setCell ⟨g, 3, none⟩ y3) A n f :=
  (((h.one hk (i := 0) rfl n0).one (hk.set_ 0 y0) (i := 1) (x := x1) rfl n1).one ((hk.set_ 0 y0).set_ 1 y1) (i := 2) (x := x2) rfl n2).one (((hk.set_ 0 y0).set_ 1 y1).set_ 2 y2) (i := 3) (x := x3) rfl n3
theorem Lim.otherW (h : Lim k w v N) (hk : Blk w g t #[x0, x1]) (n0 : Nu x0) (n1 : Nu x1) : Lim k ((w.setCell ⟨g, 0, none⟩ y0).setCell ⟨g, 1, none⟩ y1) v N := by
  obtain ⟨A, n, c, f, h1, h2, h3, h4⟩ := h
  exact ⟨A, n, c, f, h1, h2, h3.otherW hk n0 n1, h4⟩
theorem Lim.other4 (h : Lim k w v N) (hk : Blk w g t #[x0, x1, x2, x3]) (n0 : Nu x0) (n1 : Nu x1) (n2 : Nu x2) (n3 : Nu x3) : Lim k ((((w.setCell ⟨g, 0, none⟩ y0).setCell ⟨g, 1, none⟩ y1).setCell ⟨g, 2, none⟩ y2).setCell ⟨g, 3, none⟩ y3) v N := by
  obtain ⟨A, n, c, f, h1, h2, h3, h4⟩ := h
  exact ⟨A, n, c, f, h1, h2, h3.other4 hk n0 n1 n2 n3, h4⟩
theorem IsNat.other4 (h : IsNat w v N) (hk : Blk w g t #[x0, x1, x2, x3]) (n0 : Nu x0) (n1 : Nu x1) (n2 : Nu x2) (n3 : Nu x3) : IsNat ((((w.setCell ⟨g, 0, none⟩ y0).setCell ⟨g, 1, none⟩ y1).setCell ⟨g, 2, none⟩ y2).setCell ⟨g, 3, none⟩ y3) v N := by
  obtain ⟨A, n, c, f, h1, h2, h3, h4⟩ := h
  exact ⟨A, n, c, f, h1, h2, h3.other4 hk n0 n1 n2 n3, h4⟩
theorem Lim.one (h : Lim k w v N) {cs : Array Value} {i : Nat} {x y : Value} (hk : Blk w g t cs) (hi : cs[i]? = some x) (hx : Nu x) : Lim k (w.setCell ⟨g, i, none⟩ y) v N := by
  obtain ⟨A, n, c, f, h1, h2, h3, h4⟩ := h
  exact ⟨A, n, c, f, h1, h2, h3.one hk hi hx, h4⟩
theorem IsNat.one (h : IsNat w v N) {cs : Array Value} {i : Nat} {x y : Value} (hk : Blk w g t cs) (hi : cs[i]? = some x) (hx : Nu x) : IsNat (w.setCell ⟨g, i, none⟩ y) v N := by
  obtain ⟨A, n, c, f, h1, h2, h3, h4⟩ := h
  exact ⟨A, n, c, f, h1, h2, h3.one hk hi hx, h4⟩
theorem LimI.one (h : LimI k w v X) {cs : Array Value} {i : Nat} {x y : Value} (hk : Blk w g t cs) (hi : cs[i]? = some x) (hx : Nu x) : LimI k (w.setCell ⟨g, i, none⟩ y) v X := by
  obtain ⟨b, m, N, h1, h2, h3⟩ := h
  exact ⟨b, m, N, h1, h2.one hk hi hx, h3⟩
theorem LimI.otherW (h : LimI k w v X) (hk : Blk w g t #[x0, x1]) (n0 : Nu x0) (n1 : Nu x1) : LimI k ((w.setCell ⟨g, 0, none⟩ y0).setCell ⟨g, 1, none⟩ y1) v X := by
  obtain ⟨b, m, N, h1, h2, h3⟩ := h
  exact ⟨b, m, N, h1, h2.otherW hk n0 n1, h3⟩
theorem LimI.other4 (h : LimI k w v X) (hk : Blk w g t #[x0, x1, x2, x3]) (n0 : Nu x0) (n1 : Nu x1) (n2 : Nu x2) (n3 : Nu x3) : LimI k ((((w.setCell ⟨g, 0, none⟩ y0).setCell ⟨g, 1, none⟩ y1).setCell ⟨g, 2, none⟩ y2).setCell ⟨g, 3, none⟩ y3) v X := by
  obtain ⟨b, m, N, h1, h2, h3⟩ := h
  exact ⟨b, m, N, h1, h2.other4 hk n0 n1 n2 n3, h3⟩
theorem IsInt.one (h : IsInt w v X) {cs : Array Value} {i : Nat} {x y : Value} (hk : Blk w g t cs) (hi : cs[i]? = some x) (hx : Nu x) : IsInt (w.setCell ⟨g, i, none⟩ y) v X := by
  obtain ⟨m, h1, h2⟩ := h
  exact ⟨m, h1, h2.one hk hi hx⟩
theorem IsInt.other4 (h : IsInt w v X) (hk : Blk w g t #[x0, x1, x2, x3]) (n0 : Nu x0) (n1 : Nu x1) (n2 : Nu x2) (n3 : Nu x3) : IsInt ((((w.setCell ⟨g, 0, none⟩ y0).setCell ⟨g, 1, none⟩ y1).setCell ⟨g, 2, none⟩ y2).setCell ⟨g, 3, none⟩ y3) v X := by
  obtain ⟨m, h1, h2⟩ := h
  exact ⟨m, h1, h2.other4 hk n0 n1 n2 n3⟩
theorem LimR.one (h : LimR k w v X Y) {cs : Array Value} {i : Nat} {x y : Value} (hk : Blk w g t cs) (hi : cs[i]? = some x) (hx : Nu x) : LimR k (w.setCell ⟨g, i, none⟩ y) v X Y := by
  obtain ⟨b, m, b', m', h0, h1, h2⟩ := h
  exact ⟨b, m, b', m', h0, h1.one hk hi hx, h2.one hk hi hx⟩
theorem LimR.other4 (h : LimR k w v X Y) (hk : Blk w g t #[x0, x1, x2, x3]) (n0 : Nu x0) (n1 : Nu x1) (n2 : Nu x2) (n3 : Nu x3) : LimR k ((((w.setCell ⟨g, 0, none⟩ y0).setCell ⟨g, 1, none⟩ y1).setCell ⟨g, 2, none⟩ y2).setCell ⟨g, 3, none⟩ y3) v X Y := by
  obtain ⟨b, m, b', m', h0, h1, h2⟩ := h
  exact ⟨b, m, b', m', h0, h1.other4 hk n0 n1 n2 n3, h2.other4 hk n0 n1 n2 n3⟩
theorem LimQ.one (h : LimQ k w v q) {cs : Array Value} {i : Nat} {x y : Value} (hk : Blk w g t cs) (hi : cs[i]? = some x) (hx : Nu x) : LimQ k (w.setCell ⟨g, i, none⟩ y) v q := by
  obtain ⟨X, Y, h1, h2⟩ := h
  exact ⟨X, Y, h1.one hk hi hx, h2⟩
theorem LimP.other4 (h : LimP k w v q) (hk : Blk w g t #[x0, x1, x2, x3]) (n0 : Nu x0) (n1 : Nu x1) (n2 : Nu x2) (n3 : Nu x3) : LimP k ((((w.setCell ⟨g, 0, none⟩ y0).setCell ⟨g, 1, none⟩ y1).setCell ⟨g, 2, none⟩ y2).setCell ⟨g, 3, none⟩ y3) v q := by
  obtain ⟨X, Y, h1, h2⟩ := h
  exact ⟨X, Y, h1.other4 hk n0 n1 n2 n3, h2⟩
theorem IsRat.one (h : IsRat w v q) {cs : Array Value} {i : Nat} {x y : Value} (hk : Blk w g t cs) (hi : cs[i]? = some x) (hx : Nu x) : IsRat (w.setCell ⟨g, i, none⟩ y) v q := by
  obtain ⟨b, m, b', m', h0, h1, h2⟩ := h
  exact ⟨b, m, b', m', h0, h1.one hk hi hx, h2.one hk hi hx⟩
theorem IsRat.other4 (h : IsRat w v q) (hk : Blk w g t #[x0, x1, x2, x3]) (n0 : Nu x0) (n1 : Nu x1) (n2 : Nu x2) (n3 : Nu x3) : IsRat ((((w.setCell ⟨g, 0, none⟩ y0).setCell ⟨g, 1, none⟩ y1).setCell ⟨g, 2, none⟩ y2).setCell ⟨g, 3, none⟩ y3) v q := by
  obtain ⟨b, m, b', m', h0, h1, h2⟩ := h
  exact ⟨b, m, b', m', h0, h1.other4 hk n0 n1 n2 n3, h2.other4 hk n0 n1 n2 n3⟩
end
theorem Blk.cells2 {w : World} {g : Nat} {t : TypeId} {x0 x1 : Value} (h : Blk w g t #[x0, x1]) : w.cell? ⟨g, 0, none⟩ = some x0 ∧ w.cell? ⟨g, 1, none⟩ = some x1 := ⟨h.cell 0, h.cell 1⟩
theorem Blk.into2 {w : World} {g : Nat} {t : TypeId} {x0 x1 : Value} (h : Blk w g t #[x0, x1]) : w.frozen? ⟨g, 0, none⟩ = false ∧ w.frozen? ⟨g, 1, none⟩ = false := ⟨h.frozen 0, h.frozen 1⟩

set_option maxRecDepth 100000 in
set_option maxHeartbeats 1000000 in
theorem zero_any (w : World) :
    Calls Tryz.prog 107 #[] w fun e w' => RatPost w w' e 0 := by
  go_enter Tryz.func107, Tryz.ntmps107
  go_wp2_with fail
  refine Calls.mono (of_any 1 _ (by omega) (by omega)) ?_
  rintro e w1 ⟨v, rfl, h, hb⟩
  obtain ⟨b1, A1, n1, c1, rfl, -, -, h⟩ := h.form
  have hB := bun (hb)
  have Kr_1 := Lib.hid (show Blk w1 (w.heap.size) 27 #[.bool false, .slice none 0 0, .bool false, .slice none 0 0] from (Blk.new _ _ (by simp) _ _).below hb)
  have o_1 := Lib.hid (h)
  have HB_1 := Lib.hid (hB)
  have hs_1 : w.heap.size ≤ w1.heap.size := HB_1.out.size
  have hz_1 : w.heap.size + 1 ≤ w1.heap.size := by have h := hb.size; simpa using h
  clear hB hb 
  obtain ⟨p10, p11, p12, p13, l1⟩ := Kr_1.out.use4
  obtain ⟨r10, r11, r12, r13⟩ := Kr_1.out.into4
  go_wp2
  obtain ⟨WF, hWF⟩ : ∃ W, W = ((((w1.setCell ⟨w.heap.size, 0, none⟩ (.bool false)).setCell ⟨w.heap.size, 1, none⟩ (.slice none 0 0)).setCell ⟨w.heap.size, 2, none⟩ (.bool b1)).setCell ⟨w.heap.size, 3, none⟩ (.slice A1 n1 c1)) := ⟨_, rfl⟩
  rw [← hWF]
  have kq : Blk WF (w.heap.size) 27 #[.bool false, .slice none 0 0, .bool b1, .slice A1 n1 c1] := by rw [hWF]; exact Kr_1.out.own4
  have hBF : Below w.heap.size w WF := by rw [hWF]; exact Below.set4 (HB_1.out) (by first | omega | (simp; omega) | simp)
  have fo : IsInt WF (.agg #[.bool b1, .slice A1 n1 c1]) 1 := by rw [hWF]; exact o_1.out.other4 Kr_1.out nu nu nu nu
  have HE : Hid (RatPost w WF (Ending.returned (.agg #[.bool false, .slice none 0 0, .bool b1, .slice A1 n1 c1])) 0) := ⟨_, rfl, ⟨false, _, b1, _, rfl, ⟨_, rfl, isNat_nil _⟩, fo⟩, hBF⟩
  obtain ⟨e0, e1, e2, e3⟩ := kq.cells4
  clear hWF
  exact bodyPost_ret (v := .agg #[.bool false, .slice none 0 0, .bool b1, .slice A1 n1 c1]) (by simp [results, Tryz.results107, go_sem, e0, e1, e2, e3] <;> omega) rfl HE.out

set_option maxRecDepth 100000 in
set_option maxHeartbeats 1000000 in
theorem isZero_true (b : Bool) (A : Option Addr) (n c k : Nat) (X : Int) (w : World) (h : LimI k w (.agg #[.bool b, .slice A n c]) X) (hk : k ≤ 1000000) (hX : X = 0) :
    Calls Tryz.prog 112 #[(.agg #[.bool b, .slice A n c])] w fun e w' => e = .returned (.bool true) ∧ Below w.heap.size w w' := by
  have x_0 := Lib.hid h
  have HR : Hid (cmpI X 0 = 0) := by subst hX; rfl
  clear h hX
  go_enter Tryz.func112, Tryz.ntmps112
  go_wp2_with fail
  refine Calls.mono (li_cmp_is 0 HR.out (x_0.out.alloc_ _) (limI_zero _) hk (by omega)) ?_
  rintro e w1 ⟨rfl, hb⟩
  have hB := bun (hb)
  have x_1 := Lib.hid (x_0.out.below hB)
  have Ka_1 := Lib.hid (show Blk w1 (w.heap.size) 25 #[.bool b, .slice A n c] from (Blk.new _ _ (by simp) _ _).below hb)
  have HB_1 := Lib.hid (hB)
  have hs_1 : w.heap.size ≤ w1.heap.size := HB_1.out.size
  have hz_1 : w.heap.size + 1 ≤ w1.heap.size := by have h := hb.size; simpa using h
  clear hB hb x_0
  go_wp2
  go_ret
  exact ⟨rfl, HB_1.out⟩

set_option maxRecDepth 100000 in
set_option maxHeartbeats 1000000 in
theorem isZero_false (b : Bool) (A : Option Addr) (n c k : Nat) (X : Int) (w : World) (h : LimI k w (.agg #[.bool b, .slice A n c]) X) (hk : k ≤ 1000000) (hX : X ≠ 0) :
    Calls Tryz.prog 112 #[(.agg #[.bool b, .slice A n c])] w fun e w' => e = .returned (.bool false) ∧ Below w.heap.size w w' := by
  have x_0 := Lib.hid h
  obtain ⟨r, hr⟩ : ∃ r, cmpI X 0 = r := ⟨_, rfl⟩
  have hr0 : (r == 0) = false := by
    rw [beq_eq_false_iff_ne, ← hr]
    unfold cmpI
    by_cases h0 : X < 0
    · rw [if_pos h0]; omega
    · rw [if_neg h0, if_neg hX]; omega
  have HR := Lib.hid hr
  clear hr
  clear h hX
  go_enter Tryz.func112, Tryz.ntmps112
  go_wp2_with fail
  refine Calls.mono (li_cmp_is r HR.out (x_0.out.alloc_ _) (limI_zero _) hk (by omega)) ?_
  rintro e w1 ⟨rfl, hb⟩
  have hB := bun (hb)
  have x_1 := Lib.hid (x_0.out.below hB)
  have Ka_1 := Lib.hid (show Blk w1 (w.heap.size) 25 #[.bool b, .slice A n c] from (Blk.new _ _ (by simp) _ _).below hb)
  have HB_1 := Lib.hid (hB)
  have hs_1 : w.heap.size ≤ w1.heap.size := HB_1.out.size
  have hz_1 : w.heap.size + 1 ≤ w1.heap.size := by have h := hb.size; simpa using h
  clear hB hb x_0
  go_wp2
  go_ret
  exact ⟨rfl, HB_1.out⟩

set_option maxRecDepth 100000 in
set_option maxHeartbeats 1000000 in
theorem may_true (b : Bool) (A : Option Addr) (n c : Nat) (b' : Bool) (A' : Option Addr) (n' c' : Nat) (w : World) (k : Nat) (Y : Int) (h : LimI k w (.agg #[.bool b', .slice A' n' c']) Y) (hk : k ≤ 1000000) (hY : 0 < Y) :
    Calls Tryz.prog 61 #[(.agg #[.bool b, .slice A n c, .bool b', .slice A' n' c'])] w fun e w' => e = .returned (.bool true) ∧ Below w.heap.size w w' := by
  have y_0 := Lib.hid h
  obtain ⟨r, hr⟩ : ∃ r, cmpI Y 0 = r := ⟨_, rfl⟩
  have hr0 : 0 < r := by rw [← hr, cmpI_gt hY]; omega
  have HR := Lib.hid hr
  clear hr h hY
  go_enter Tryz.func61, Tryz.ntmps61
  go_wp2_with fail
  refine Calls.mono (li_cmp_is r HR.out (y_0.out.alloc_ _) (limI_zero _) hk (by omega)) ?_
  rintro e w1 ⟨rfl, hb⟩
  have hB := bun (hb)
  have y_1 := Lib.hid (y_0.out.below hB)
  have Ka_1 := Lib.hid (show Blk w1 (w.heap.size) 27 #[.bool b, .slice A n c, .bool b', .slice A' n' c'] from (Blk.new _ _ (by simp) _ _).below hb)
  have HB_1 := Lib.hid (hB)
  have hs_1 : w.heap.size ≤ w1.heap.size := HB_1.out.size
  have hz_1 : w.heap.size + 1 ≤ w1.heap.size := by have h := hb.size; simpa using h
  clear hB hb y_0
  go_wp2
  go_ret
  exact ⟨rfl, HB_1.out⟩

set_option maxRecDepth 100000 in
set_option maxHeartbeats 1000000 in
theorem may_false (b : Bool) (A : Option Addr) (n c : Nat) (b' : Bool) (A' : Option Addr) (n' c' : Nat) (w : World) (k : Nat) (Y : Int) (h : LimI k w (.agg #[.bool b', .slice A' n' c']) Y) (hk : k ≤ 1000000) (hY : Y ≤ 0) :
    Calls Tryz.prog 61 #[(.agg #[.bool b, .slice A n c, .bool b', .slice A' n' c'])] w fun e w' => e = .returned (.bool false) ∧ Below w.heap.size w w' := by
  have y_0 := Lib.hid h
  obtain ⟨r, hr⟩ : ∃ r, cmpI Y 0 = r := ⟨_, rfl⟩
  have hr0 : r ≤ 0 := by
    rw [← hr]
    unfold cmpI
    by_cases h0 : Y < 0
    · rw [if_pos h0]; omega
    · rw [if_neg h0, if_pos (by omega)]; omega
  have hr1 : decide (0 < r) = false := decide_eq_false (by omega)
  have HR := Lib.hid hr
  clear hr h hY
  go_enter Tryz.func61, Tryz.ntmps61
  go_wp2_with fail
  refine Calls.mono (li_cmp_is r HR.out (y_0.out.alloc_ _) (limI_zero _) hk (by omega)) ?_
  rintro e w1 ⟨rfl, hb⟩
  have hB := bun (hb)
  have y_1 := Lib.hid (y_0.out.below hB)
  have Ka_1 := Lib.hid (show Blk w1 (w.heap.size) 27 #[.bool b, .slice A n c, .bool b', .slice A' n' c'] from (Blk.new _ _ (by simp) _ _).below hb)
  have HB_1 := Lib.hid (hB)
  have hs_1 : w.heap.size ≤ w1.heap.size := HB_1.out.size
  have hz_1 : w.heap.size + 1 ≤ w1.heap.size := by have h := hb.size; simpa using h
  clear hB hb y_0
  go_wp2
  go_ret
  exact ⟨rfl, HB_1.out⟩

set_option maxRecDepth 100000 in
set_option maxHeartbeats 1000000 in
theorem taken_yes (b : Bool) (A : Option Addr) (n c : Nat) (b' : Bool) (A' : Option Addr) (n' c' : Nat) (w : World) (k : Nat) (X Y : Int) (h : LimR k w (.agg #[.bool b, .slice A n c, .bool b', .slice A' n' c']) X Y) (hk : k ≤ 1000000) (hY : 0 < Y) :
    Calls Tryz.prog 91 #[(.agg #[.bool b, .slice A n c, .bool b', .slice A' n' c'])] w fun e w' => e = .returned (.agg #[.bool b, .slice A n c, .bool b', .slice A' n' c']) ∧ Below w.heap.size w w' := by
  obtain ⟨_, _, _, _, e0, h1, h2⟩ := h
  injection e0 with e0
  injection e0 with e0
  simp at e0
  obtain ⟨rfl, rfl, rfl, rfl⟩ := e0
  have y_0 := Lib.hid h2
  have HY := Lib.hid hY
  clear h1 h2 hY
  go_enter Tryz.func91, Tryz.ntmps91
  go_wp2_with fail
  refine Calls.mono (may_true _ _ _ _ _ _ _ _ _ k Y ((y_0.out.alloc_ _).alloc_ _) hk HY.out) ?_
  rintro e w1 ⟨rfl, hb⟩
  have hB := bun (bun (hb))
  have y_1 := Lib.hid (y_0.out.below hB)
  have Ka_1 := Lib.hid (show Blk w1 (w.heap.size) 27 #[.bool b, .slice A n c, .bool b', .slice A' n' c'] from ((Blk.new _ _ (by simp) _ _).alloc_ _).below hb)
  have Kr_1 := Lib.hid (show Blk w1 (w.heap.size + 1) 27 #[.bool false, .slice none 0 0, .bool false, .slice none 0 0] from (Blk.new _ _ (by simp) _ _).below hb)
  have HB_1 := Lib.hid (hB)
  have hs_1 : w.heap.size ≤ w1.heap.size := HB_1.out.size
  have hz_1 : w.heap.size + 2 ≤ w1.heap.size := by have h := hb.size; simpa using h
  clear hB hb y_0
  obtain ⟨p10, p11, p12, p13, l1⟩ := Ka_1.out.use4
  obtain ⟨p20, p21, p22, p23, l2⟩ := Kr_1.out.use4
  obtain ⟨r20, r21, r22, r23⟩ := Kr_1.out.into4
  go_wp2
  obtain ⟨WF, hWF⟩ : ∃ W, W = ((((w1.setCell ⟨w.heap.size + 1, 0, none⟩ (.bool b)).setCell ⟨w.heap.size + 1, 1, none⟩ (.slice A n c)).setCell ⟨w.heap.size + 1, 2, none⟩ (.bool b')).setCell ⟨w.heap.size + 1, 3, none⟩ (.slice A' n' c')) := ⟨_, rfl⟩
  rw [← hWF]
  have kq : Blk WF (w.heap.size + 1) 27 #[.bool b, .slice A n c, .bool b', .slice A' n' c'] := by rw [hWF]; exact Kr_1.out.own4
  have hBF : Below w.heap.size w WF := by rw [hWF]; exact Below.set4 (HB_1.out) (by first | omega | (simp; omega) | simp)
  have HE : Hid ((Ending.returned (.agg #[.bool b, .slice A n c, .bool b', .slice A' n' c'])) = Ending.returned (.agg #[.bool b, .slice A n c, .bool b', .slice A' n' c']) ∧ Below w.heap.size w WF) := ⟨rfl, hBF⟩
  obtain ⟨e0, e1, e2, e3⟩ := kq.cells4
  clear hWF
  exact bodyPost_ret (v := .agg #[.bool b, .slice A n c, .bool b', .slice A' n' c']) (by simp [results, Tryz.results91, go_sem, e0, e1, e2, e3] <;> omega) rfl HE.out

set_option maxRecDepth 100000 in
set_option maxHeartbeats 1000000 in
theorem taken_no (b : Bool) (A : Option Addr) (n c : Nat) (b' : Bool) (A' : Option Addr) (n' c' : Nat) (w : World) (k : Nat) (X Y : Int) (h : LimR k w (.agg #[.bool b, .slice A n c, .bool b', .slice A' n' c']) X Y) (hk : k ≤ 1000000) (hY : Y ≤ 0) :
    Calls Tryz.prog 91 #[(.agg #[.bool b, .slice A n c, .bool b', .slice A' n' c'])] w fun e w' => RatPost w w' e 0 := by
  obtain ⟨_, _, _, _, e0, h1, h2⟩ := h
  injection e0 with e0
  injection e0 with e0
  simp at e0
  obtain ⟨rfl, rfl, rfl, rfl⟩ := e0
  have y_0 := Lib.hid h2
  have HY := Lib.hid hY
  clear h1 h2 hY
  go_enter Tryz.func91, Tryz.ntmps91
  go_wp2_with fail
  refine Calls.mono (may_false _ _ _ _ _ _ _ _ _ k Y ((y_0.out.alloc_ _).alloc_ _) hk HY.out) ?_
  rintro e w1 ⟨rfl, hb⟩
  have hB := bun (bun (hb))
  have y_1 := Lib.hid (y_0.out.below hB)
  have Ka_1 := Lib.hid (show Blk w1 (w.heap.size) 27 #[.bool b, .slice A n c, .bool b', .slice A' n' c'] from ((Blk.new _ _ (by simp) _ _).alloc_ _).below hb)
  have Kr_1 := Lib.hid (show Blk w1 (w.heap.size + 1) 27 #[.bool false, .slice none 0 0, .bool false, .slice none 0 0] from (Blk.new _ _ (by simp) _ _).below hb)
  have HB_1 := Lib.hid (hB)
  have hs_1 : w.heap.size ≤ w1.heap.size := HB_1.out.size
  have hz_1 : w.heap.size + 2 ≤ w1.heap.size := by have h := hb.size; simpa using h
  clear hB hb y_0
  go_wp2_with fail
  refine Calls.mono (zero_any _) ?_
  rintro e w2 ⟨v, rfl, h, hb⟩
  obtain ⟨b2, A2, n2, c2, d2, B2, m2, k2, rfl, -, -, -, h1, h2⟩ := h.form
  have hB := hb
  have Ka_2 := Lib.hid (Ka_1.out.below hB)
  have Kr_2 := Lib.hid (Kr_1.out.below hB)
  have z_2 := Lib.hid (h1)
  have z2_2 := Lib.hid (h2)
  have HB_2 := Lib.hid (below_trans HB_1.out hB)
  have hs_2 : w.heap.size ≤ w2.heap.size := HB_2.out.size
  have hz_2 : w1.heap.size + 0 ≤ w2.heap.size := by have h := hb.size; simpa using h
  clear hB hb y_1 Ka_1 Kr_1 HB_1
  obtain ⟨p10, p11, p12, p13, l1⟩ := Kr_2.out.use4
  obtain ⟨r10, r11, r12, r13⟩ := Kr_2.out.into4
  go_wp2
  obtain ⟨WF, hWF⟩ : ∃ W, W = ((((w2.setCell ⟨w.heap.size + 1, 0, none⟩ (.bool b2)).setCell ⟨w.heap.size + 1, 1, none⟩ (.slice A2 n2 c2)).setCell ⟨w.heap.size + 1, 2, none⟩ (.bool d2)).setCell ⟨w.heap.size + 1, 3, none⟩ (.slice B2 m2 k2)) := ⟨_, rfl⟩
  rw [← hWF]
  have kq : Blk WF (w.heap.size + 1) 27 #[.bool b2, .slice A2 n2 c2, .bool d2, .slice B2 m2 k2] := by rw [hWF]; exact Kr_2.out.own4
  have hBF : Below w.heap.size w WF := by rw [hWF]; exact Below.set4 (HB_2.out) (by first | omega | (simp; omega) | simp)
  have f1 : IsInt WF (.agg #[.bool b2, .slice A2 n2 c2]) (0 : Rat).num := by rw [hWF]; exact z_2.out.other4 Kr_2.out nu nu nu nu
  have f2 : IsInt WF (.agg #[.bool d2, .slice B2 m2 k2]) ((0 : Rat).den : Int) := by rw [hWF]; exact z2_2.out.other4 Kr_2.out nu nu nu nu
  have HE : Hid (RatPost w WF (Ending.returned (.agg #[.bool b2, .slice A2 n2 c2, .bool d2, .slice B2 m2 k2])) 0) := ⟨_, rfl, ⟨_, _, _, _, rfl, f1, f2⟩, hBF⟩
  obtain ⟨e0, e1, e2, e3⟩ := kq.cells4
  clear hWF
  exact bodyPost_ret (v := .agg #[.bool b2, .slice A2 n2 c2, .bool d2, .slice B2 m2 k2]) (by simp [results, Tryz.results91, go_sem, e0, e1, e2, e3] <;> omega) rfl HE.out

def TakenPost (k : Nat) (w w' : World) (e : Ending) (q : Rat) : Prop := ∃ v, e = .returned v ∧ LimP k w' v q ∧ Below w.heap.size w w'
theorem q_taken {k : Nat} {w : World} {v : Value} {q : Rat} (h : LimQ k w v q) (hk : k ≤ 1000000) (h1 : 1 ≤ k) : Calls Tryz.prog 91 #[v] w fun e w' => TakenPost k w w' e q := by
  obtain ⟨X, Y, h, rfl⟩ := h
  obtain ⟨b, A, n, c, b', A', n', c', rfl, ha, hb⟩ := h.form
  unfold ratOf
  by_cases hY : 0 < Y
  · rw [if_pos hY]
    refine (taken_yes b A n c b' A' n' c' w k X Y (limR_mk ha hb) hk hY).mono ?_
    rintro e w' ⟨rfl, hbl⟩
    exact ⟨_, rfl, ⟨X, Y, (limR_mk ha hb).below hbl, hY, rfl⟩, hbl⟩
  · rw [if_neg hY]
    refine (taken_no b A n c b' A' n' c' w k X Y (limR_mk ha hb) hk (by omega)).mono ?_
    rintro e w' ⟨v, rfl, hv, hbl⟩
    exact ⟨v, rfl, hv.limP (bq_zero h1), hbl⟩
end Go.Proofs.YtebdmidghidaeaaGreat
