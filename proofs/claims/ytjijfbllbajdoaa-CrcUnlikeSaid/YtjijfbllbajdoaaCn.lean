/- Appends to several slices of the call's own; the walk of CrcLinear. -/
import Derived.Test.YtjijfbllbajdoaaCj
import Derived.Maps.AppendAt
import Derived.Deep.RegionLaw
namespace Go.Proofs.Ytjijfbllbajdoaa
open Go.RowKit

def Apart (u v : Value) : Prop := ∀ g, u.ownBlock = some g → v.ownBlock ≠ some g
theorem Apart.symm {u v : Value} (h : Apart u v) : Apart v u := fun g hv hu => h g hu hv
theorem apart_nil (v : Value) : Apart (.slice none 0 0) v := fun g h => by simp [Value.ownBlock] at h

theorem wpList_app_at {P : Program} {w : World} {ops : Array Oper} {rest : List Oper} {o : Oper} {a : Act} {Q : Exit → Act → World → Prop} (hgd : o.guard = none) (s x : Operand) (t : TypeId)
    (ho : o.op = .call { callee := .builtin .append, args := #[s, x], argTypes := #[t, t] })
    (K : IntKind) (e : TypeId) (ht : P.underlying t = some (.slice e)) (bytes : Nat) (hinfo : (P.info? e).map (fun i => (i.zero, i.size, i.bytes)) = some (some (.int K 0), 1, bytes)) (hby : bytes ≤ 8)
    (base : Nat) (v : Value) (n : Nat) (f : Nat → Nat) (hs : a.eval s = v) (hown : Own K e w base v n f)
    (ad : Addr) (m c : Nat) (g : Nat → Nat) (hx : a.eval x = .slice (some ad) m c) (hr : Rd K w (some ad) m g)
    (hnm : n + m ≤ 17592186044416) (hbase : base ≤ w.heap.size)
    (h : ∀ v' w', Own K e w' base v' (n + m) (appF f n g) → w.grownBy w' v.ownBlock → (v'.ownBlock = v.ownBlock ∨ v'.ownBlock = some w.heap.size) → wpList P ops Q rest (a.put o.dst v') w') : wpList P ops Q (o :: rest) a w := by
  obtain ⟨i, hi, hz0, hz1, hz2⟩ := info_parts hinfo
  have hb : (n + m) * bytes ≤ 140737488355328 := by
    have : (n + m) * bytes ≤ 17592186044416 * 8 := Nat.mul_le_mul hnm hby
    omega
  refine wpList_append_own_at w hgd s x t ho base e i (.int K 0) 1 bytes ht hi hz0 hz1 hz2 rfl (by omega) v n _ hs hown ad m c ((List.range m).map fun j => Value.int K (g j : Nat)) hx (by simp) ?_ ?_ (by simp only [maxLen]; omega) hb hbase ?_
  · intro j u hu
    have hj : j < m := by
      rcases Nat.lt_or_ge j m with hh | hh
      · exact hh
      · rw [List.getElem?_eq_none (by simpa using hh)] at hu; cases hu
    simp [hj] at hu
    rw [hr.at_ hj, hu]
  · intro u hu
    simp at hu
    obtain ⟨j, _, rfl⟩ := hu
    rfl
  · intro v' w' h2 h3 _ h5
    rw [map_app] at h2
    exact h v' w' h2 h3 h5

/-- The same as one step of a region that draws its order. -/
theorem step_app_at {P : Program} {ops : Array Oper} {o : Oper} {a : Act} {w : World} {KK : Act → World → Prop} {Q : Exit → Act → World → Prop} {E : Prop} (hgd : o.guard = none) (s x : Operand) (t : TypeId)
    (ho : o.op = .call { callee := .builtin .append, args := #[s, x], argTypes := #[t, t] })
    (K : IntKind) (e : TypeId) (ht : P.underlying t = some (.slice e)) (bytes : Nat) (hinfo : (P.info? e).map (fun i => (i.zero, i.size, i.bytes)) = some (some (.int K 0), 1, bytes)) (hby : bytes ≤ 8)
    (base : Nat) (v : Value) (n : Nat) (f : Nat → Nat) (hs : a.eval s = v) (hown : Own K e w base v n f)
    (ad : Addr) (m c : Nat) (g : Nat → Nat) (hx : a.eval x = .slice (some ad) m c) (hr : Rd K w (some ad) m g)
    (hnm : n + m ≤ 17592186044416) (hbase : base ≤ w.heap.size)
    (h : ∀ v' w', Own K e w' base v' (n + m) (appF f n g) → w.grownBy w' v.ownBlock → (v'.ownBlock = v.ownBlock ∨ v'.ownBlock = some w.heap.size) → KK (a.put o.dst v') w') :
    if Region.wanted o (yielded ops a.tmps) = true then Oper.wp P o a w KK Q else E := by
  have hw : Region.wanted o (yielded ops a.tmps) = true := by simp [Region.wanted, hgd]
  rw [if_pos hw]
  obtain ⟨i, hi, hz0, hz1, hz2⟩ := info_parts hinfo
  have hb : (n + m) * bytes ≤ 140737488355328 := by
    have : (n + m) * bytes ≤ 17592186044416 * 8 := Nat.mul_le_mul hnm hby
    omega
  obtain ⟨v', w', hrun, h2, h3, _, h5⟩ := run_append_own_at w base t o.type e i (.int K 0) 1 bytes ht hi hz0 hz1 hz2 rfl (by omega) v n _ hown ad m c ((List.range m).map fun j => Value.int K (g j : Nat)) (by simp)
    (fun j u hu => by
      have hj : j < m := by
        rcases Nat.lt_or_ge j m with hh | hh
        · exact hh
        · rw [List.getElem?_eq_none (by simpa using hh)] at hu; cases hu
      simp [hj] at hu
      rw [hr.at_ hj, hu])
    (fun u hu => by
      simp at hu
      obtain ⟨j, _, rfl⟩ := hu
      rfl) (by simp only [maxLen]; omega) hb hbase
  rw [map_app] at h2
  unfold Oper.wp
  simp [execOp, ho, resolve, invoke, builtin, hs, hx, hrun, Result.andThen]
  exact h v' w' h2 h3 h5

/-- One of four rows that grow: it is read as f, and lies apart from v. -/
theorem Own.beside {K : IntKind} {t : TypeId} {w w' : World} {base n : Nat} {u v v' : Value} {f : Nat → Nat} (h : Own K t w base u n f) (hap : Apart u v) (hg : w.grownBy w' v.ownBlock) (hat : v'.ownBlock = v.ownBlock ∨ v'.ownBlock = some w.heap.size) :
    Own K t w' base u n f ∧ Apart u v' := by
  refine ⟨World.ownsRow.kept h hg ?_, fun g hu hv => ?_⟩
  · cases hu : u.ownBlock with
    | none => exact .inl rfl
    | some g => exact .inr (fun e => hap g hu e.symm)
  · rcases hat with e | e
    · rw [e] at hv
      exact hap g hu hv
    · rw [e] at hv
      injection hv with hv
      have := (World.ownsRow.lt h g hu).2
      omega

def L4 (w1 wr : World) (a b c d : Value) (ka kb kc kd : Nat) (X Y Z T : Nat → Nat) : Prop :=
  Own .u8 5 wr w1.heap.size a ka X ∧ Own .u8 5 wr w1.heap.size b kb Y ∧ Own .u8 5 wr w1.heap.size c kc Z ∧ Own .u8 5 wr w1.heap.size d kd T ∧
  Apart a b ∧ Apart a c ∧ Apart a d ∧ Apart b c ∧ Apart b d ∧ Apart c d ∧ Below w1.heap.size w1 wr
section
variable {w1 wr w2 : World} {a b c d v : Value} {ka kb kc kd k : Nat} {X Y Z T F : Nat → Nat}
theorem L4.first (w1 : World) (X Y Z T : Nat → Nat) : L4 w1 w1 (.slice none 0 0) (.slice none 0 0) (.slice none 0 0) (.slice none 0 0) 0 0 0 0 X Y Z T :=
  ⟨Own.nil, Own.nil, Own.nil, Own.nil, apart_nil _, apart_nil _, apart_nil _, apart_nil _, apart_nil _, apart_nil _, Below.refl _ _⟩
theorem L4.alloc (h : L4 w1 wr a b c d ka kb kc kd X Y Z T) (o : Obj) : L4 w1 (wr.alloc o) a b c d ka kb kc kd X Y Z T := by
  obtain ⟨h1, h2, h3, h4, p1, p2, p3, p4, p5, p6, hb⟩ := h
  exact ⟨h1.alloc o, h2.alloc o, h3.alloc o, h4.alloc o, p1, p2, p3, p4, p5, p6, hb.alloc hb.size o⟩
theorem L4.drewN (h : L4 w1 wr a b c d ka kb kc kd X Y Z T) (n : Nat) : L4 w1 (wr.drewN n) a b c d ka kb kc kd X Y Z T := by
  obtain ⟨h1, h2, h3, h4, p1, p2, p3, p4, p5, p6, hb⟩ := h
  exact ⟨h1, h2, h3, h4, p1, p2, p3, p4, p5, p6, Below.drewN_ hb n⟩
theorem L4.drew (h : L4 w1 wr a b c d ka kb kc kd X Y Z T) : L4 w1 wr.drew a b c d ka kb kc kd X Y Z T := by
  obtain ⟨h1, h2, h3, h4, p1, p2, p3, p4, p5, p6, hb⟩ := h
  exact ⟨h1, h2, h3, h4, p1, p2, p3, p4, p5, p6, Below.drew_ hb⟩
/-- The rows by turns. -/
theorem L4.turn (h : L4 w1 wr a b c d ka kb kc kd X Y Z T) : L4 w1 wr b c d a kb kc kd ka Y Z T X := by
  obtain ⟨h1, h2, h3, h4, p1, p2, p3, p4, p5, p6, hb⟩ := h
  exact ⟨h2, h3, h4, h1, p4, p5, p1.symm, p6, p2.symm, p3.symm, hb⟩
theorem L4.step (h : L4 w1 wr a b c d ka kb kc kd X Y Z T) (ho : Own .u8 5 w2 w1.heap.size v k F) (hg : wr.grownBy w2 a.ownBlock) (hat : v.ownBlock = a.ownBlock ∨ v.ownBlock = some wr.heap.size) (he : k = ka + 1) (hf : ∀ j, j < k → F j = X j) :
    L4 w1 w2 v b c d (ka + 1) kb kc kd X Y Z T := by
  obtain ⟨h1, h2, h3, h4, p1, p2, p3, p4, p5, p6, hb⟩ := h
  obtain ⟨q2, r2⟩ := h2.beside p1.symm hg hat
  obtain ⟨q3, r3⟩ := h3.beside p2.symm hg hat
  obtain ⟨q4, r4⟩ := h4.beside p3.symm hg hat
  subst he
  exact ⟨ho.congr hf, q2, q3, q4, r2.symm, r3.symm, r4.symm, p4, p5, p6, hb.grown hg hb.size fun k hk => (World.ownsRow.lt h1 k hk).1⟩
end
theorem appF_next {X : Nat → Nat} {k x : Nat} (hx : x = X k) : ∀ j, j < k + 1 → appF X k (fun _ => x) j = X j := fun j hj => by
  unfold appF
  split
  · rfl
  · obtain rfl : j = k := by omega
    exact hx

/-- n arrays of three bytes, one behind the other. -/
def Tri (w : World) (A : Option Addr) (n : Nat) (X Y Z : Nat → Nat) : Prop :=
  ∀ i, i < n → ∃ a : Addr, A = some a ∧ a.block < w.heap.size ∧ w.cell? (a.add (i * 3)) = some (.int .u8 (X i : Nat)) ∧ w.cell? ⟨(a.add (i * 3)).block, (a.add (i * 3)).off + 1, none⟩ = some (.int .u8 (Y i : Nat)) ∧ w.cell? ⟨(a.add (i * 3)).block, (a.add (i * 3)).off + 2, none⟩ = some (.int .u8 (Z i : Nat)) ∧ X i < 256 ∧ Y i < 256 ∧ Z i < 256
theorem Tri.below {w w' : World} {A : Option Addr} {n : Nat} {X Y Z : Nat → Nat} (h : Tri w A n X Y Z) (hb : Below w.heap.size w w') : Tri w' A n X Y Z := fun i hi => by
  obtain ⟨a, e, h1, h2, h3, h4, h5⟩ := h i hi
  have hs := hb.size
  have hbl : (a.add (i * 3)).block < w.heap.size := by rw [add_block]; exact h1
  exact ⟨a, e, by omega, (hb.cell (p := a.add (i * 3)) hbl).trans h2, (hb.cell (p := ⟨_, _, none⟩) hbl).trans h3, (hb.cell (p := ⟨_, _, none⟩) hbl).trans h4, h5⟩

set_option maxHeartbeats 2000000 in
theorem crcLinear_out (A : Option Addr) (n c : Nat) (w : World) (hn : 1000 < n) (hn2 : n ≤ 9223372036854775807) :
    Calls Try.prog 6 #[.slice A n c] w fun e w' => e = .returned (.bool true) ∧ Below w.heap.size w w' := by
  go_enter Try.func6, Try.ntmps6
  go_wp2_with (go_at_call 8; refine (awake_any _).mono ?_; rintro e w1 ⟨rfl, hb1⟩)
  go_ret
  exact ⟨rfl, hb1⟩

set_option maxRecDepth 20000 in
set_option maxHeartbeats 4000000 in
theorem crcLinear_in (A : Option Addr) (n c : Nat) (X Y Z : Nat → Nat) (w : World) (ht : Tri w A n X Y Z) (hn : n ≤ 1000) :
    Calls Try.prog 6 #[.slice A n c] w fun e w' => e = .returned (.bool true) ∧ Below w.heap.size w w' := by
  have HT := Lib.hid ht
  clear ht
  go_enter Try.func6, Try.ntmps6
  go_wp2_with fail
  refine (awake_any _).mono ?_
  rintro e w1 ⟨rfl, hb1⟩
  have HB1 := Lib.hid hb1
  have HT1 := Lib.hid (HT.out.below hb1)
  clear hb1 HT
  go_wp2
  go_loopw [3, 4, 5, 6, 7] (fun va vb vc vd v wr => ∃ k : Nat, k ≤ n ∧ v = .int .i64 (k : Nat) ∧ L4 w1 wr va vb vc vd k k k k X Y Z (fun j => (X j ^^^ Y j) ^^^ Z j)) (fun _ _ _ _ v _ => n - (intOf v).toNat)
  case atStart => exact ⟨0, Nat.zero_le _, rfl, L4.first _ _ _ _ _⟩
  case round =>
    obtain ⟨k, hk, rfl, hl4⟩ := hrel
    by_cases hlt : k < n
    · obtain ⟨ad, rfl, hbl, c0, c1, c2, x0, y0, z0⟩ := (HT1.out.below hl4.2.2.2.2.2.2.2.2.2.2) k hlt
      obtain ⟨x, hx⟩ : ∃ x, x = X k := ⟨_, rfl⟩
      obtain ⟨y, hy⟩ : ∃ y, y = Y k := ⟨_, rfl⟩
      obtain ⟨z, hz⟩ : ∃ z, z = Z k := ⟨_, rfl⟩
      rw [← hx] at c0 x0
      rw [← hy] at c1 y0
      rw [← hz] at c2 z0
      have HX := Lib.hid hx
      have HY := Lib.hid hy
      have HZ := Lib.hid hz
      clear hx hy hz
      have HL1 := Lib.hid hl4
      have hbs := hl4.2.2.2.2.2.2.2.2.2.2.size
      clear hl4
      go_wp2_with (first
        | (
            at_builtin
            refine wpList_app_at rfl (.tmp 19) (.tmp 25) 22 rfl .u8 5 Try.underlying22 1 u8_info (by omega) w1.heap.size _ k X rfl ((HL1.out.alloc (.cells #[.int .u8 (x : Nat)] 5)).1) ⟨wr.heap.size, 0, none⟩ 1 1 (fun _ => x) rfl ((row_one wr x).rd0 (Nat.le_refl _)) (by omega) (by simp; omega) ?_
            intro v2 w2 ho2 hg2 ha2
            have HL2 := Lib.hid ((HL1.out.alloc (.cells #[.int .u8 (x : Nat)] 5)).step ho2 hg2 ha2 rfl (appF_next HX.out))
            clear ho2 hg2 ha2
            have hbs2 := HL2.out.2.2.2.2.2.2.2.2.2.2.size
            obtain ⟨_, e2, _, c20, c21, c22, _⟩ := (HT1.out.below HL2.out.2.2.2.2.2.2.2.2.2.2) k hlt
            injection e2 with e2
            subst e2
            rw [← HX.out] at c20
            rw [← HY.out] at c21
            rw [← HZ.out] at c22)
        | (
            at_builtin
            refine wpList_app_at rfl (.tmp 27) (.tmp 33) 22 rfl .u8 5 Try.underlying22 1 u8_info (by omega) w1.heap.size _ k Y rfl ((HL2.out.turn.alloc (.cells #[.int .u8 (y : Nat)] 5)).1) ⟨w2.heap.size, 0, none⟩ 1 1 (fun _ => y) rfl ((row_one w2 y).rd0 (Nat.le_refl _)) (by omega) (by simp; omega) ?_
            intro v3 w3 ho3 hg3 ha3
            have HL3 := Lib.hid ((HL2.out.turn.alloc (.cells #[.int .u8 (y : Nat)] 5)).step ho3 hg3 ha3 rfl (appF_next HY.out))
            clear ho3 hg3 ha3
            have hbs3 := HL3.out.2.2.2.2.2.2.2.2.2.2.size
            obtain ⟨_, e3, _, c30, c31, c32, _⟩ := (HT1.out.below HL3.out.2.2.2.2.2.2.2.2.2.2) k hlt
            injection e3 with e3
            subst e3
            rw [← HX.out] at c30
            rw [← HY.out] at c31
            rw [← HZ.out] at c32)
        | (
            at_builtin
            refine wpList_app_at rfl (.tmp 35) (.tmp 41) 22 rfl .u8 5 Try.underlying22 1 u8_info (by omega) w1.heap.size _ k Z rfl ((HL3.out.turn.alloc (.cells #[.int .u8 (z : Nat)] 5)).1) ⟨w3.heap.size, 0, none⟩ 1 1 (fun _ => z) rfl ((row_one w3 z).rd0 (Nat.le_refl _)) (by omega) (by simp; omega) ?_
            intro v4 w4 ho4 hg4 ha4
            have HL4 := Lib.hid ((HL3.out.turn.alloc (.cells #[.int .u8 (z : Nat)] 5)).step ho4 hg4 ha4 rfl (appF_next HZ.out))
            clear ho4 hg4 ha4
            have hbs4 := HL4.out.2.2.2.2.2.2.2.2.2.2.size
            obtain ⟨_, e4, _, c40, c41, c42, _⟩ := (HT1.out.below HL4.out.2.2.2.2.2.2.2.2.2.2) k hlt
            injection e4 with e4
            subst e4
            rw [← HX.out] at c40
            rw [← HY.out] at c41
            rw [← HZ.out] at c42))
      have hx1 := u8_xor_nat x y x0 y0
      have hxy := byte_xor x0 y0
      have hx2 := u8_xor_nat (x ^^^ y) z hxy z0
      have HQ := Lib.hid (show (x ^^^ y) ^^^ z = (X k ^^^ Y k) ^^^ Z k from by rw [HX.out, HY.out, HZ.out])
      generalize x ^^^ y = xy at *
      generalize xy ^^^ z = q at *
      clear c0 c1 c2 c20 c21 c22 c30 c31 c32 hbs hbs2 hbs3
      go_region_law (
        refine step_app_at rfl (.tmp 43) (.tmp 61) 22 rfl .u8 5 Try.underlying22 1 u8_info (by omega) w1.heap.size u6 k (fun j => (X j ^^^ Y j) ^^^ Z j) (by simp [Act.eval]) ((HL4.out.turn.drew.alloc (.cells #[.int .u8 (q : Nat)] 5)).1) ⟨w4.heap.size, 0, none⟩ 1 1 (fun _ => q) (by simp [Act.eval]) ((row_one w4.drew q).rd0 (Nat.le_refl _)) (by omega) (by simp; omega) ?_
        intro v5 w5 ho5 hg5 ha5)
      all_goals
        have HL5 := Lib.hid ((HL4.out.turn.drew.alloc (.cells #[.int .u8 (q : Nat)] 5)).step ho5 hg5 ha5 rfl (appF_next HQ.out)).turn
        clear ho5 hg5 ha5 hx1 hx2 hxy c40 c41 c42 hbs4
        go_wp2
        go_roundw
        case rel => exact ⟨k + 1, by omega, by go_num, HL5.out⟩
        case measure => simp [intOf]; omega
    · obtain rfl : k = n := by omega
      have hX : ∀ j, j < k → X j < 256 := fun j hj => by obtain ⟨_, _, _, _, _, _, h, _⟩ := HT1.out j hj; exact h
      have hY : ∀ j, j < k → Y j < 256 := fun j hj => by obtain ⟨_, _, _, _, _, _, _, h, _⟩ := HT1.out j hj; exact h
      have hZ : ∀ j, j < k → Z j < 256 := fun j hj => by obtain ⟨_, _, _, _, _, _, _, _, h⟩ := HT1.out j hj; exact h
      obtain ⟨o1, o2, o3, o4, _, _, _, _, _, _, hbl⟩ := hl4
      have HB := Lib.hid (bbt HB1.out hbl)
      have HA := Lib.hid (own_byt o1 hX)
      have HBb := Lib.hid (own_byt o2 hY)
      have HC := Lib.hid (own_byt o3 hZ)
      have HD := Lib.hid (own_byt o4 fun j hj => byte_xor (byte_xor (hX j hj) (hY j hj)) (hZ j hj))
      have h3 := crcN_three hX hY hZ
      have l1 := crcN_lt hX
      have l2 := crcN_lt hY
      have l3 := crcN_lt hZ
      have SA := Lib.hid (fun w0 (h : Byt w0 u3 k X) => sum_b h (by omega))
      have SB := Lib.hid (fun w0 (h : Byt w0 u4 k Y) => sum_b h (by omega))
      have SC := Lib.hid (fun w0 (h : Byt w0 u5 k Z) => sum_b h (by omega))
      have SD := Lib.hid (fun w0 (h : Byt w0 u6 k (fun j => X j ^^^ Y j ^^^ Z j)) => sum_b h (by omega))
      clear o1 o2 o3 o4 hbl hX hY hZ
      generalize crcN (fun j => X j ^^^ Y j ^^^ Z j) k = sd at *
      generalize crcN X k = sa at *
      generalize crcN Y k = sb at *
      generalize crcN Z k = sc at *
      have x1 := u32_xor_nat sa sb l1 l2
      have l12 : sa ^^^ sb < 4294967296 := Nat.xor_lt_two_pow (n := 32) l1 l2
      have x2 := u32_xor_nat (sa ^^^ sb) sc l12 l3
      rw [← h3] at x2
      generalize sa ^^^ sb = sab at *
      clear h3 l1 l2 l3 l12
      go_wp2_with fail
      refine (SD.out _ HD.out).mono ?_
      rintro e w2 ⟨rfl, hb2⟩
      have HB2 := Lib.hid (bbt HB.out hb2)
      have HA2 := Lib.hid (HA.out.below hb2)
      have HBb2 := Lib.hid (HBb.out.below hb2)
      have HC2 := Lib.hid (HC.out.below hb2)
      clear hb2 HA HBb HC
      go_wp2_with fail
      refine (SA.out _ HA2.out).mono ?_
      rintro e w3 ⟨rfl, hb3⟩
      have HB3 := Lib.hid (bbt HB2.out hb3)
      have HBb3 := Lib.hid (HBb2.out.below hb3)
      have HC3 := Lib.hid (HC2.out.below hb3)
      clear hb3 HBb2 HC2
      go_wp2_with fail
      refine (SB.out _ HBb3.out).mono ?_
      rintro e w4 ⟨rfl, hb4⟩
      have HB4 := Lib.hid (bbt HB3.out hb4)
      have HC4 := Lib.hid (HC3.out.below hb4)
      clear hb4 HC3
      go_wp2_with fail
      refine (SC.out _ HC4.out).mono ?_
      rintro e w5 ⟨rfl, hb5⟩
      have HB5 := Lib.hid (bbt HB4.out hb5)
      clear hb5
      go_wp2
      go_ret
      exact ⟨rfl, HB5.out⟩
end Go.Proofs.Ytjijfbllbajdoaa
