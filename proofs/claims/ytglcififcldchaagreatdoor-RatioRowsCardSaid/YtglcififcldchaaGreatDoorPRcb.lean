/- Fractions as bytes: what is written and read. Nothing of the program is in here. -/
import Derived.Test.YtglcififcldchaaGreatDoorPLr
import Derived.Test.YtglcififcldchaaGreatDoorPRb
import Derived.Deep.DeepCutAuto
namespace Go.Proofs.YtglcififcldchaaGreatDoor
open Go.RowKit
set_option linter.unusedVariables false

theorem Byt.alloc_ {w : World} {v : Value} {n : Nat} {f : Nat → Nat} (h : Byt w v n f) (o : Obj) : Byt (w.alloc o) v n f := h.below (below_new w o)
theorem Byt.drew_ {w : World} {v : Value} {n : Nat} {f : Nat → Nat} (h : Byt w v n f) : Byt w.drew v n f := h
theorem pow_up {a b N : Nat} (h : N < 4294967296 ^ a) (hab : a ≤ b) : N < 4294967296 ^ b := Nat.lt_of_lt_of_le h (Nat.pow_le_pow_right (by omega) hab)
theorem intRV_lt {f : Nat → Nat} {n : Nat} (hf : ∀ j, j < n → f j < 256) : (intRV f n).natAbs < 4294967296 ^ n := by
  unfold intRV
  split
  · rename_i h
    rw [sg_abs]
    have hn : 0 < n := by
      unfold intRB at h
      exact (of_decide_eq_true h).1
    exact pow_up (readN_lt (f := tl f) (n := n - 1) fun j hj => hf _ (by omega)) (by omega)
  · exact Nat.pow_pos (by omega)
theorem intRM_le (f : Nat → Nat) (n : Nat) : intRM f n ≤ n := by
  unfold intRM
  split
  · have := readM_le (tl f) (n - 1); omega
  · omega
theorem own_byt {w : World} {v : Value} {base n : Nat} {F : Nat → Nat} (h : Own .u8 5 w base v n F) (hF : ∀ j, j < n → F j < 256) : Byt w v n F := by
  rcases h.form with ⟨rfl, rfl⟩ | ⟨g, c, rfl, _, hc⟩
  · exact byt_nil _ _
  · exact ⟨_, c, rfl, hc, h.rd_, hF⟩
theorem Byt.congr {w : World} {v : Value} {n : Nat} {F F' : Nat → Nat} (h : Byt w v n F) (he : ∀ j, j < n → F j = F' j) : Byt w v n F' := by
  obtain ⟨A, c, h1, h2, h3, h4⟩ := h
  exact ⟨A, c, h1, h2, h3.congr he, fun j hj => by rw [← he j hj]; exact h4 j hj⟩
/-- F's first n bytes are those of the fraction q. -/
def EncQ (q : Rat) (n : Nat) (F : Nat → Nat) : Prop := ∃ m l, n = m + l ∧ IsEnc q.num m F ∧ IsEnc (q.den : Int) l (fun j => F (m + j))
/-- The bytes of a fraction. -/
def IsQB (w : World) (v : Value) (q : Rat) (n : Nat) : Prop := ∃ G, Byt w v n G ∧ EncQ q n G
theorem IsEnc.le {X : Int} {n : Nat} {F : Nat → Nat} (h : IsEnc X n F) : 3 ≤ n ∧ n ≤ 16387 := by
  obtain ⟨p, f, rfl, _, _, _, _, _, h⟩ := h
  omega
theorem EncQ.le {q : Rat} {n : Nat} {F : Nat → Nat} (h : EncQ q n F) : 6 ≤ n ∧ n ≤ 40000 := by
  obtain ⟨m, l, rfl, h1, h2⟩ := h
  have := h1.le
  have := h2.le
  omega
theorem EncQ.congr {q : Rat} {n : Nat} {F F' : Nat → Nat} (h : EncQ q n F) (he : ∀ j, j < n → F' j = F j) : EncQ q n F' := by
  obtain ⟨m, l, rfl, h1, h2⟩ := h
  exact ⟨m, l, rfl, h1.congr fun j hj => he j (by omega), h2.congr fun j hj => he (m + j) (by omega)⟩
noncomputable def qOk (f : Nat → Nat) (n : Nat) : Bool := intRB f n && (intRB (readG (tl f)) (intRM f n) && (decide (0 < intRV (readG (tl f)) (intRM f n)) && decide (Int.gcd (intRV f n) (intRV (readG (tl f)) (intRM f n)) = 1)))
noncomputable def qRV (f : Nat → Nat) (n : Nat) : Rat := if qOk f n then Rat.divInt (intRV f n) (intRV (readG (tl f)) (intRM f n)) else 0
noncomputable def qRM (f : Nat → Nat) (n : Nat) : Nat := if qOk f n then intRM (readG (tl f)) (intRM f n) else 0
noncomputable def qRG (f : Nat → Nat) : Nat → Nat := readG (tl (readG (tl f)))
theorem divInt_cop {X Y : Int} (hY : 0 < Y) (hg : Int.gcd X Y = 1) : (Rat.divInt X Y).num = X ∧ ((Rat.divInt X Y).den : Int) = Y := by
  obtain ⟨h1, h2, _⟩ := divInt_parts X hY
  rw [hg] at h1 h2
  exact ⟨by simpa using h1, by simpa using h2⟩
theorem EncQ.read {q : Rat} {m n : Nat} {F g : Nat → Nat} (h : EncQ q m F) (hn : m ≤ n) (hg : ∀ j, j < m → g j = F j) :
    qOk g n = true ∧ qRV g n = q ∧ qRM g n = n - m ∧ ∀ j, qRG g j = g (m + j) := by
  obtain ⟨a, b, rfl, h1, h2⟩ := h
  obtain ⟨e1, e2, e3, e4⟩ := h1.read (g := g) (n := n) (by omega) (fun j hj => hg j (by omega))
  obtain ⟨f1, f2, f3, f4⟩ := h2.read (g := readG (tl g)) (n := intRM g n) (by omega) (fun j hj => by rw [e4]; exact hg _ (by omega))
  have hd := den_pos' q
  have hc : Int.gcd q.num (q.den : Int) = 1 := q.reduced
  have ho : qOk g n = true := by
    unfold qOk
    rw [e1, f1, e2, f2, decide_eq_true hd, decide_eq_true hc]
    rfl
  refine ⟨ho, ?_, ?_, fun j => ?_⟩
  · unfold qRV
    rw [if_pos ho, e2, f2]
    exact Rat.num_divInt_den q
  · unfold qRM
    rw [if_pos ho, f3, e3]
    omega
  · unfold qRG
    rw [f4, e4, Nat.add_assoc]
theorem qOk_zero (f : Nat → Nat) : qOk f 0 = false := by
  unfold qOk
  rw [(intR_no (f := f) (n := 0) (by omega)).1]
  rfl
theorem qRead_no {f : Nat → Nat} {n : Nat} (h : qOk f n = false) : qRV f n = 0 ∧ qRM f n = 0 := by
  unfold qRV qRM
  rw [h]
  exact ⟨rfl, rfl⟩
/-- What a fraction's Read tells. -/
def ReadResQ (w w' : World) (e : Ending) (b : Bool) (q : Rat) (m : Nat) (g : Nat → Nat) : Prop :=
  ∃ va vb, e = .returned (.tuple #[va, vb, .bool b]) ∧ IsRat w' va q ∧ Byt w' vb m g ∧ Below w.heap.size w w'
end Go.Proofs.YtglcififcldchaaGreatDoor

/- Contracts of ratio: lowest, Plain, Of. -/
namespace Go.Proofs.YtglcififcldchaaGreatDoor
open Go.RowKit
set_option linter.unusedVariables false

theorem LimI.mag {k : Nat} {w : World} {b : Bool} {m : Value} {X : Int} (h : LimI k w (.agg #[.bool b, m]) X) : Lim k w m X.natAbs := by
  obtain ⟨b', m', N, e, h1, rfl⟩ := h
  simp at e
  obtain ⟨rfl, rfl⟩ := e
  rw [sg_abs]
  exact h1
theorem isInt_nat {w : World} {m : Value} {N : Nat} (h : IsNat w m N) : IsInt w (.agg #[.bool false, m]) (N : Int) := ⟨m, by rw [decide_eq_false (by omega)], by rwa [Int.natAbs_natCast]⟩
theorem fdiv_even0 {X q : Int} {G : Nat} (h : q * (G : Int) = X) (hG : 0 < G) : FDiv X G q 0 := ⟨by omega, .inl ⟨by omega, by omega⟩⟩

set_option maxRecDepth 100000 in
set_option maxHeartbeats 1000000 in
theorem lowest_any (b : Bool) (A : Option Addr) (n c : Nat) (b' : Bool) (A' : Option Addr) (n' c' : Nat) (w : World) (k : Nat) (X Y : Int) (hx : LimI k w (.agg #[.bool b, .slice A n c]) X) (hy : LimI k w (.agg #[.bool b', .slice A' n' c']) Y) (hk : k ≤ 100000) (hY : 0 < Y) :
    Calls Tryz.prog 54 #[(.agg #[.bool b, .slice A n c, .bool b', .slice A' n' c'])] w fun e w' => RatPost w w' e (Rat.divInt X Y) := by
  obtain ⟨E1, E2, hG⟩ := divInt_parts X hY
  have FX := Lib.hid (fdiv_even0 E1 hG)
  have FY := Lib.hid (fdiv_even0 E2 hG)
  have HG : Hid ((Int.gcd X Y : Int) ≠ 0) := by show _ ≠ _; omega
  have BG : Hid ((Int.gcd X Y : Int).natAbs < 4294967296 ^ k) := by
    show _ < _
    have := hy.lt
    have h2 := Nat.le_of_dvd (by omega) (Nat.gcd_dvd_right X.natAbs Y.natAbs)
    unfold Int.gcd
    omega
  have x_0 := Lib.hid hx
  have y_0 := Lib.hid hy
  clear E1 E2 hG hx hy hY
  go_enter Tryz.func54, Tryz.ntmps54
  go_wp2_with fail
  refine Calls.mono (lim_gcd ((x_0.out.alloc_ _).alloc_ _).mag ((y_0.out.alloc_ _).alloc_ _).mag (by omega) (by omega)) ?_
  rintro e w1 ⟨v, rfl, h, hb⟩
  obtain ⟨A1, n1, c1, rfl, -, h⟩ := isNat_form h
  replace h := isInt_nat h
  have hB := bun (bun (hb))
  have x_1 := Lib.hid (x_0.out.below hB)
  have y_1 := Lib.hid (y_0.out.below hB)
  have Ka_1 := Lib.hid (show Blk w1 (w.heap.size) 26 #[.bool b, .slice A n c, .bool b', .slice A' n' c'] from ((Blk.new _ _ (by simp) _ _).alloc_ _).below hb)
  have Kr_1 := Lib.hid (show Blk w1 (w.heap.size + 1) 26 #[.bool false, .slice none 0 0, .bool false, .slice none 0 0] from (Blk.new _ _ (by simp) _ _).below hb)
  have g_1 := Lib.hid (h)
  have HB_1 := Lib.hid (hB)
  have hs_1 : w.heap.size ≤ w1.heap.size := HB_1.out.size
  have hz_1 : w.heap.size + 2 ≤ w1.heap.size := by have h := hb.size; simpa using h
  clear hB hb x_0 y_0
  obtain ⟨p10, p11, p12, p13, l1⟩ := Ka_1.out.use4
  go_wp2_with fail
  refine Calls.mono (li_div_is _ 0 FX.out (x_1.out.alloc_ _) ((g_1.out.alloc_ _).lim BG.out) (by omega) (by omega) HG.out) ?_
  rintro e w2 ⟨vq, vr, rfl, h, h2, hb⟩
  obtain ⟨b2, A2, n2, c2, rfl, -, -, h⟩ := h.form
  obtain ⟨d2, B2, m2, k2, rfl, -, -, h2⟩ := h2.form
  clear h2
  have hB := bun (hb)
  have x_2 := Lib.hid (x_1.out.below hB)
  have y_2 := Lib.hid (y_1.out.below hB)
  have g_2 := Lib.hid (g_1.out.below hB)
  have Ka_2 := Lib.hid (Ka_1.out.below hB)
  have Kr_2 := Lib.hid (Kr_1.out.below hB)
  have Kg_2 := Lib.hid (show Blk w2 (w1.heap.size) 24 #[.bool false, .slice A1 n1 c1] from (Blk.new _ _ (by simp) _ _).below hb)
  have q_2 := Lib.hid (h)
  have HB_2 := Lib.hid (below_trans HB_1.out hB)
  have hs_2 : w.heap.size ≤ w2.heap.size := HB_2.out.size
  have hz_2 : w1.heap.size + 1 ≤ w2.heap.size := by have h := hb.size; simpa using h
  clear hB hb x_1 y_1 g_1 Ka_1 Kr_1 HB_1 p10 p11 p12 p13 l1
  obtain ⟨p20, p21, p22, p23, l2⟩ := Ka_2.out.use4
  obtain ⟨p30, p31, l3⟩ := Kg_2.out.use2
  go_wp2_with fail
  refine Calls.mono (li_div_is _ 0 FY.out ((y_2.out.alloc_ _).alloc_ _) (((g_2.out.alloc_ _).alloc_ _).lim BG.out) (by omega) (by omega) HG.out) ?_
  rintro e w3 ⟨vq, vr, rfl, h, h2, hb⟩
  obtain ⟨b3, A3, n3, c3, rfl, -, -, h⟩ := h.form
  obtain ⟨d3, B3, m3, k3, rfl, -, -, h2⟩ := h2.form
  clear h2
  have hB := bun (bun (hb))
  have q_3 := Lib.hid (q_2.out.below hB)
  have Ka_3 := Lib.hid (Ka_2.out.below hB)
  have Kr_3 := Lib.hid (Kr_2.out.below hB)
  have Kg_3 := Lib.hid (Kg_2.out.below hB)
  have Kq_3 := Lib.hid (show Blk w3 (w2.heap.size) 24 #[.bool b2, .slice A2 n2 c2] from ((Blk.new _ _ (by simp) _ _).alloc_ _).below hb)
  have Kq2_3 := Lib.hid (show Blk w3 (w2.heap.size + 1) 24 #[.bool d2, .slice B2 m2 k2] from (Blk.new _ _ (by simp) _ _).below hb)
  have d_3 := Lib.hid (h)
  have HB_3 := Lib.hid (below_trans HB_2.out hB)
  have hs_3 : w.heap.size ≤ w3.heap.size := HB_3.out.size
  have hz_3 : w2.heap.size + 2 ≤ w3.heap.size := by have h := hb.size; simpa using h
  clear hB hb x_2 y_2 g_2 q_2 Ka_2 Kr_2 Kg_2 HB_2 p20 p21 p22 p23 l2 p30 p31 l3
  obtain ⟨p40, p41, l4⟩ := Kq_3.out.use2
  obtain ⟨p50, p51, p52, p53, l5⟩ := Kr_3.out.use4
  obtain ⟨r50, r51, r52, r53⟩ := Kr_3.out.into4
  obtain ⟨z0, z1, z2, z3, zl⟩ := (show Blk ((w3.alloc (.cells #[.bool b3, .slice A3 n3 c3] 24)).alloc (.cells #[.bool d3, .slice B3 m3 k3] 24)) (w.heap.size + 1) 26 #[.bool false, .slice none 0 0, .bool false, .slice none 0 0] from ((Kr_3.out.alloc_ _).alloc_ _)).use4
  obtain ⟨y0, y1, y2, y3⟩ := (show Blk ((w3.alloc (.cells #[.bool b3, .slice A3 n3 c3] 24)).alloc (.cells #[.bool d3, .slice B3 m3 k3] 24)) (w.heap.size + 1) 26 #[.bool false, .slice none 0 0, .bool false, .slice none 0 0] from ((Kr_3.out.alloc_ _).alloc_ _)).into4
  go_wp2
  obtain ⟨WF, hWF⟩ : ∃ W, W = ((((((w3.alloc (.cells #[.bool b3, .slice A3 n3 c3] 24)).alloc (.cells #[.bool d3, .slice B3 m3 k3] 24)).setCell ⟨w.heap.size + 1, 0, none⟩ (.bool b2)).setCell ⟨w.heap.size + 1, 1, none⟩ (.slice A2 n2 c2)).setCell ⟨w.heap.size + 1, 2, none⟩ (.bool b3)).setCell ⟨w.heap.size + 1, 3, none⟩ (.slice A3 n3 c3)) := ⟨_, rfl⟩
  rw [← hWF]
  have kq : Blk WF (w.heap.size + 1) 26 #[.bool b2, .slice A2 n2 c2, .bool b3, .slice A3 n3 c3] := by rw [hWF]; exact ((Kr_3.out.alloc_ _).alloc_ _).own4
  have hBF : Below w.heap.size w WF := by rw [hWF]; exact Below.set4 (halloc (halloc (HB_3.out))) (by first | omega | (simp; omega) | simp)
  have f1 : IsInt WF (.agg #[.bool b2, .slice A2 n2 c2]) (Rat.divInt X Y).num := by rw [hWF]; exact ((q_3.out.alloc_ _).alloc_ _).other4 ((Kr_3.out.alloc_ _).alloc_ _) nu nu nu nu
  have f2 : IsInt WF (.agg #[.bool b3, .slice A3 n3 c3]) ((Rat.divInt X Y).den : Int) := by rw [hWF]; exact ((d_3.out.alloc_ _).alloc_ _).other4 ((Kr_3.out.alloc_ _).alloc_ _) nu nu nu nu
  have HE : Hid (RatPost w WF (Ending.returned (.agg #[.bool b2, .slice A2 n2 c2, .bool b3, .slice A3 n3 c3])) (Rat.divInt X Y)) := ⟨_, rfl, ⟨_, _, _, _, rfl, f1, f2⟩, hBF⟩
  obtain ⟨e0, e1, e2, e3⟩ := kq.cells4
  clear hWF
  exact bodyPost_ret (v := .agg #[.bool b2, .slice A2 n2 c2, .bool b3, .slice A3 n3 c3]) (by simp [results, Tryz.results54, go_sem, e0, e1, e2, e3] <;> omega) rfl HE.out

theorem p_lowest {k : Nat} {w : World} {v : Value} {q : Rat} (h : LimP k w v q) (hk : k ≤ 100000) : Calls Tryz.prog 54 #[v] w fun e w' => RatPost w w' e q := by
  obtain ⟨X, Y, h, hY, rfl⟩ := h
  obtain ⟨b, A, n, c, b', A', n', c', rfl, ha, hb⟩ := h.form
  exact lowest_any b A n c b' A' n' c' w k X Y ha hb hk hY

set_option maxRecDepth 100000 in
set_option maxHeartbeats 1000000 in
theorem q_plain0 (b : Bool) (A : Option Addr) (n c : Nat) (b' : Bool) (A' : Option Addr) (n' c' : Nat) (w : World) (k : Nat) (q : Rat) (h : LimQ k w (.agg #[.bool b, .slice A n c, .bool b', .slice A' n' c']) q) (hk : k ≤ 100000) (h1 : 1 ≤ k) :
    Calls Tryz.prog 19 #[(.agg #[.bool b, .slice A n c, .bool b', .slice A' n' c'])] w fun e w' => RatPost w w' e q := by
  have x_0 := Lib.hid h
  clear h
  go_enter Tryz.func19, Tryz.ntmps19
  go_wp2_with fail
  refine Calls.mono (q_taken ((x_0.out.alloc_ _).alloc_ _) (by omega) h1) ?_
  rintro e w1 ⟨v1, rfl, h, hb⟩
  have hB := bun (bun (hb))
  have Ka_1 := Lib.hid (show Blk w1 (w.heap.size) 26 #[.bool b, .slice A n c, .bool b', .slice A' n' c'] from ((Blk.new _ _ (by simp) _ _).alloc_ _).below hb)
  have Kr_1 := Lib.hid (show Blk w1 (w.heap.size + 1) 26 #[.bool false, .slice none 0 0, .bool false, .slice none 0 0] from (Blk.new _ _ (by simp) _ _).below hb)
  have t_1 := Lib.hid (h)
  have HB_1 := Lib.hid (hB)
  have hs_1 : w.heap.size ≤ w1.heap.size := HB_1.out.size
  have hz_1 : w.heap.size + 2 ≤ w1.heap.size := by have h := hb.size; simpa using h
  clear hB hb x_0
  go_wp2_with fail
  refine Calls.mono (p_lowest t_1.out hk) ?_
  rintro e w2 ⟨v2, rfl, h, hb⟩
  obtain ⟨b2, A2, n2, c2, d2, B2, m2, k2, rfl, -, -, -, h1, h2⟩ := h.form
  have hB := hb
  have Ka_2 := Lib.hid (Ka_1.out.below hB)
  have Kr_2 := Lib.hid (Kr_1.out.below hB)
  have z_2 := Lib.hid (h1)
  have z2_2 := Lib.hid (h2)
  have HB_2 := Lib.hid (below_trans HB_1.out hB)
  have hs_2 : w.heap.size ≤ w2.heap.size := HB_2.out.size
  have hz_2 : w1.heap.size + 0 ≤ w2.heap.size := by have h := hb.size; simpa using h
  clear hB hb t_1 Ka_1 Kr_1 HB_1
  obtain ⟨p10, p11, p12, p13, l1⟩ := Kr_2.out.use4
  obtain ⟨r10, r11, r12, r13⟩ := Kr_2.out.into4
  go_wp2
  obtain ⟨WF, hWF⟩ : ∃ W, W = ((((w2.setCell ⟨w.heap.size + 1, 0, none⟩ (.bool b2)).setCell ⟨w.heap.size + 1, 1, none⟩ (.slice A2 n2 c2)).setCell ⟨w.heap.size + 1, 2, none⟩ (.bool d2)).setCell ⟨w.heap.size + 1, 3, none⟩ (.slice B2 m2 k2)) := ⟨_, rfl⟩
  rw [← hWF]
  have kq : Blk WF (w.heap.size + 1) 26 #[.bool b2, .slice A2 n2 c2, .bool d2, .slice B2 m2 k2] := by rw [hWF]; exact Kr_2.out.own4
  have hBF : Below w.heap.size w WF := by rw [hWF]; exact Below.set4 (HB_2.out) (by first | omega | (simp; omega) | simp)
  have f1 : IsInt WF (.agg #[.bool b2, .slice A2 n2 c2]) (q).num := by rw [hWF]; exact z_2.out.other4 Kr_2.out nu nu nu nu
  have f2 : IsInt WF (.agg #[.bool d2, .slice B2 m2 k2]) ((q).den : Int) := by rw [hWF]; exact z2_2.out.other4 Kr_2.out nu nu nu nu
  have HE : Hid (RatPost w WF (Ending.returned (.agg #[.bool b2, .slice A2 n2 c2, .bool d2, .slice B2 m2 k2])) (q)) := ⟨_, rfl, ⟨_, _, _, _, rfl, f1, f2⟩, hBF⟩
  obtain ⟨e0, e1, e2, e3⟩ := kq.cells4
  clear hWF
  exact bodyPost_ret (v := .agg #[.bool b2, .slice A2 n2 c2, .bool d2, .slice B2 m2 k2]) (by simp [results, Tryz.results19, go_sem, e0, e1, e2, e3] <;> omega) rfl HE.out

theorem q_plain {k : Nat} {w : World} {v : Value} {q : Rat} (h : LimQ k w v q) (hk : k ≤ 100000) (h1 : 1 ≤ k) : Calls Tryz.prog 19 #[v] w fun e w' => RatPost w w' e q := by
  have H := h
  obtain ⟨X, Y, h, rfl⟩ := h
  obtain ⟨b, A, n, c, b', A', n', c', rfl, ha, hb⟩ := h.form
  exact q_plain0 b A n c b' A' n' c' w k _ H hk h1
end Go.Proofs.YtglcififcldchaaGreatDoor

/- ratio.Bytes. -/
namespace Go.Proofs.YtglcififcldchaaGreatDoor
open Go.RowKit
attribute [local go_sem ↓] Go.wp_at_zero Go.wp_at_succ
set_option linter.unusedVariables false

theorem rd8_same {w : World} {A : Option Addr} {n : Nat} {f g : Nat → Nat} (h : Rd .u8 w A n f) (h' : Rd .u8 w A n g) : ∀ j, j < n → f j = g j := fun j hj => by
  obtain ⟨a, e, h1⟩ := h j hj
  obtain ⟨a', e', h2⟩ := h' j hj
  rw [e] at e'
  injection e' with e'
  subst e'
  rw [h1] at h2
  injection h2 with h2
  injection h2 with _ h2
  exact_mod_cast h2
theorem li_bytesN {k : Nat} {w : World} {v : Value} {X : Int} (h : LimI k w v X) (hk : k ≤ 4096) : Calls Tryz.prog 84 #[v] w fun e w' =>
    ∃ S n c G, e = .returned (.slice S n c) ∧ Byt w' (.slice S n c) n G ∧ IsEnc X n G ∧ Own .u8 5 w' w.heap.size (.slice S n c) n G ∧ 3 ≤ n ∧ n ≤ 16387 ∧ (S = none → n = 0 ∧ c = 0) ∧ Below w.heap.size w w' :=
  (li_bytesO h hk).mono fun e w' ⟨v, p, h1, h2, h3⟩ => by
    obtain ⟨hp, G, hby, henc⟩ := h2.1.enc
    obtain ⟨F, hF⟩ := h2.2
    obtain ⟨S, c, rfl, hby⟩ := hby.form
    refine ⟨S, _, c, G, h1, hby, henc, hF.congr fun j hj => rd8_same hF.rd_ hby.rd j hj, by omega, by omega, fun e => ?_, h3⟩
    obtain ⟨ad, e', _⟩ := hby.rd.some_ (show 0 < 3 + 4 * p by omega)
    rw [e] at e'
    cases e'

set_option maxRecDepth 100000 in
set_option maxHeartbeats 4000000 in
theorem q_bytes0 (b : Bool) (A : Option Addr) (n c : Nat) (b' : Bool) (A' : Option Addr) (n' c' : Nat) (w : World) (k : Nat) (q : Rat) (hx : LimQ k w (.agg #[.bool b, .slice A n c, .bool b', .slice A' n' c']) q) (hk : k ≤ 4096) (h1 : 1 ≤ k) :
    Calls Tryz.prog 43 #[(.agg #[.bool b, .slice A n c, .bool b', .slice A' n' c'])] w fun e w' => ∃ v n, e = .returned v ∧ IsQB w' v q n ∧ Below w.heap.size w w' := by
  have x_0 := Lib.hid hx
  have BQ0 := Lib.hid (hx.bq h1)
  have BN := Lib.hid BQ0.out.1
  have BD := Lib.hid (show ((q.den : Int)).natAbs < 4294967296 ^ k from BQ0.out.2)
  clear hx
  go_enter Tryz.func43, Tryz.ntmps43
  go_wp2_with fail
  refine Calls.mono (q_plain (x_0.out.alloc_ _) (by omega) h1) ?_
  rintro e w1 ⟨v, rfl, h, hb⟩
  obtain ⟨b1, A1, n1, c1, d1, B1, m1, k1, rfl, -, -, -, h1, h2⟩ := h.form
  have hB := bun (hb)
  have Ka_1 := Lib.hid (show Blk w1 (w.heap.size) 26 #[.bool b, .slice A n c, .bool b', .slice A' n' c'] from (Blk.new _ _ (by simp) _ _).below hb)
  have z_1 := Lib.hid (h1)
  have z2_1 := Lib.hid (h2)
  have HB_1 := Lib.hid (hB)
  have hs_1 : w.heap.size ≤ w1.heap.size := HB_1.out.size
  have hz_1 : w.heap.size + 1 ≤ w1.heap.size := (by have h := hb.size; (try simp at h); omega)
  clear hB hb x_0
  obtain ⟨p10, p11, p12, p13, l1⟩ := Ka_1.out.use4
  obtain ⟨r10, r11, r12, r13⟩ := Ka_1.out.into4
  go_upto_region 2 with fail
  generalize hW : ((((w1.setCell ⟨w.heap.size, 0, none⟩ (.bool b1)).setCell ⟨w.heap.size, 1, none⟩ (.slice A1 n1 c1)).setCell ⟨w.heap.size, 2, none⟩ (.bool d1)).setCell ⟨w.heap.size, 3, none⟩ (.slice B1 m1 k1)) = w2
  have z_2 := Lib.hid (by have h := ((((z_1.out.one Ka_1.out (i := 0) (x := .bool b) (y := .bool b1) rfl nu).one (Ka_1.out.set_ 0 (.bool b1)) (i := 1) (x := .slice A n c) (y := .slice A1 n1 c1) rfl nu).one ((Ka_1.out.set_ 0 (.bool b1)).set_ 1 (.slice A1 n1 c1)) (i := 2) (x := .bool b') (y := .bool d1) rfl nu).one (((Ka_1.out.set_ 0 (.bool b1)).set_ 1 (.slice A1 n1 c1)).set_ 2 (.bool d1)) (i := 3) (x := .slice A' n' c') (y := .slice B1 m1 k1) rfl nu); rw [hW] at h; exact h)
  have z2_2 := Lib.hid (by have h := ((((z2_1.out.one Ka_1.out (i := 0) (x := .bool b) (y := .bool b1) rfl nu).one (Ka_1.out.set_ 0 (.bool b1)) (i := 1) (x := .slice A n c) (y := .slice A1 n1 c1) rfl nu).one ((Ka_1.out.set_ 0 (.bool b1)).set_ 1 (.slice A1 n1 c1)) (i := 2) (x := .bool b') (y := .bool d1) rfl nu).one (((Ka_1.out.set_ 0 (.bool b1)).set_ 1 (.slice A1 n1 c1)).set_ 2 (.bool d1)) (i := 3) (x := .slice A' n' c') (y := .slice B1 m1 k1) rfl nu); rw [hW] at h; exact h)
  have Ka_2 := Lib.hid (show Blk w2 (w.heap.size) 26 #[.bool b1, .slice A1 n1 c1, .bool d1, .slice B1 m1 k1] from by rw [← hW]; exact ((((Ka_1.out.set_ 0 (.bool b1)).set_ 1 (.slice A1 n1 c1)).set_ 2 (.bool d1)).set_ 3 (.slice B1 m1 k1)))
  have HB_2 := Lib.hid (show Below w.heap.size w w2 from by rw [← hW]; exact (bset (bset (bset (bset HB_1.out (by omega)) (by omega)) (by omega)) (by omega)))
  have hs_2 : w.heap.size ≤ w2.heap.size := HB_2.out.size
  have hz_2 : w1.heap.size ≤ w2.heap.size := by rw [← hW]; simp [World.setCell]
  have hq_2 := Lib.hid (show w2.heap.size = w1.heap.size from by rw [← hW]; simp [World.setCell])
  clear hW z_1 z2_1 Ka_1 HB_1 p10 p11 p12 p13 l1 r10 r11 r12 r13
  go_wp2
  obtain ⟨p20, p21, p22, p23, l2⟩ := Ka_2.out.use4
  have tok0 : True := trivial
  have tok1 : True := trivial
  go_region_held3 (fun w' => w'.cell? ⟨w.heap.size, 0, none⟩ = some (.bool b1) ∧ w'.cell? ⟨w.heap.size, 1, none⟩ = some (.slice A1 n1 c1) ∧ w'.cell? ⟨w.heap.size, 2, none⟩ = some (.bool d1) ∧ w'.cell? ⟨w.heap.size, 3, none⟩ = some (.slice B1 m1 k1)) (first | (refine ⟨?_, ?_, ?_, ?_⟩ <;> (first | with_reducible assumption | ((with_reducible refine Eq.trans (cell_drew _ _) ?_); with_reducible assumption) | ((rw [cell_far4 _ _ _ _ _ _ _ _ (by omega)]); with_reducible assumption) | ((repeat rw [cell_far2 _ _ _ _ _ _ (by omega)]); with_reducible assumption) | go_keep)) | trivial | go_keep)
    (first
      | (go_at_call 84; have _t := tok0; clear _t tok0; ((with_reducible refine Calls.mono (li_bytesN (IsInt.lim (k := k) (by first | exact z_2.out | exact z_2.out.drew_ | exact z_2.out.alloc_ _ | exact (z_2.out.alloc_ _).drew_) BN.out) hk) ?_)); rintro e w3 ⟨S3, q3, s3, G3, rfl, hy, he, ho, hl3, hg3, hn3, hb⟩; have E1 := Lib.hid he; have hB := (show Below w2.heap.size w2 w3 from by first | exact hb | exact bundrew hb | exact bun hb | exact bundrew (bun hb) | exact bun (bundrew hb)); have z_3 := Lib.hid (z_2.out.below hB); have z2_3 := Lib.hid (z2_2.out.below hB); have Ka_3 := Lib.hid (Ka_2.out.below hB); have y1_3 := Lib.hid (hy); have o1_3 := Lib.hid (ho); have HB_3 := Lib.hid (below_trans HB_2.out hB); have hs_3 : w.heap.size ≤ w3.heap.size := HB_3.out.size; have hz_3 : w2.heap.size + 0 ≤ w3.heap.size := (by have h := hb.size; (try simp at h); omega); clear hB hb z_2 z2_2 Ka_2 HB_2 p20 p21 p22 p23 l2; obtain ⟨p30, p31, p32, p33, l3⟩ := Ka_3.out.use4)
      | (go_at_call 84; have _t := tok1; clear _t tok1; ((with_reducible refine Calls.mono (li_bytesN (IsInt.lim (k := k) (by first | exact z2_3.out | exact z2_3.out.drew_ | exact z2_3.out.alloc_ _ | exact (z2_3.out.alloc_ _).drew_) BD.out) hk) ?_)); rintro e w4 ⟨S4, q4, s4, G4, rfl, hy, he, ho, hl4, hg4, hn4, hb⟩; have E2 := Lib.hid he; have hB := (show Below w3.heap.size w3 w4 from by first | exact hb | exact bundrew hb | exact bun hb | exact bundrew (bun hb) | exact bun (bundrew hb)); have z_4 := Lib.hid (z_3.out.below hB); have z2_4 := Lib.hid (z2_3.out.below hB); have y1_4 := Lib.hid (y1_3.out.below hB); have o1_4 := Lib.hid (o1_3.out.below hB); have Ka_4 := Lib.hid (Ka_3.out.below hB); have y2_4 := Lib.hid (hy); have HB_4 := Lib.hid (below_trans HB_3.out hB); have hs_4 : w.heap.size ≤ w4.heap.size := HB_4.out.size; have hz_4 : w3.heap.size + 0 ≤ w4.heap.size := (by have h := hb.size; (try simp at h); omega); clear hB hb z_3 z2_3 y1_3 o1_3 Ka_3 HB_3 p30 p31 p32 p33 l3; obtain ⟨p40, p41, p42, p43, l4⟩ := Ka_4.out.use4))
  have he3 : ((q3 : Int) == 0) = false := by rw [beq_eq_false_iff_ne]; omega
  have he4 : ((q4 : Int) == 0) = false := by rw [beq_eq_false_iff_ne]; omega
  go_wp2_with (at_builtin; refine wpList_app rfl (.tmp 21) (.tmp 22) 40 rfl .u8 5 Tryz.underlying40 1 u8_info (by omega) w2.heap.size _ q3 G3 rfl o1_4.out S4 q4 s4 G4 rfl y2_4.out.rd hn4 (by omega) (by omega) ?_; intro v5 w5 hown5 hb5 hs5)
  go_ret
  refine ⟨_, _, rfl, ⟨appF G3 q3 G4, own_byt hown5 (fun j hj => ?_), q3, q4, rfl, E1.out.congr (fun j hj => by unfold appF; rw [if_pos hj]), E2.out.congr (fun j hj => by show appF G3 q3 G4 (q3 + j) = _; unfold appF; rw [if_neg (by omega), Nat.add_sub_cancel_left])⟩, HB_4.out.trans (hb5.mono (by omega))⟩
  unfold appF
  split
  · obtain ⟨_, _, _, _, _, hG⟩ := y1_4.out
    exact hG _ (by omega)
  · obtain ⟨_, _, _, _, _, hG⟩ := y2_4.out
    exact hG _ (by omega)

theorem q_bytes {k : Nat} {w : World} {v : Value} {q : Rat} (h : LimQ k w v q) (hk : k ≤ 4096) (h1 : 1 ≤ k) : Calls Tryz.prog 43 #[v] w fun e w' => ∃ v n, e = .returned v ∧ IsQB w' v q n ∧ Below w.heap.size w w' := by
  have H := h
  obtain ⟨X, Y, h, rfl⟩ := h
  obtain ⟨b, A, n, c, b', A', n', c', rfl, -, -⟩ := h.form
  exact q_bytes0 b A n c b' A' n' c' w k _ H hk h1
end Go.Proofs.YtglcififcldchaaGreatDoor
