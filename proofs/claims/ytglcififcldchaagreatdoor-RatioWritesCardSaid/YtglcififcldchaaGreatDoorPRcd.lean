/- ratio.Bytes. -/
import Derived.Test.YtglcififcldchaaGreatDoorPRca
import Derived.Test.YtglcififcldchaaGreatDoorPRc
import Derived.Deep.DeepCutAuto
import Derived.Test.YtglcififcldchaaGreatDoorPWs
import Derived.Test.YtglcififcldchaaGreatDoorPRl
import Derived.Test.YtglcififcldchaaGreatDoorPNatF
import Derived.Test.YtglcififcldchaaGreatDoorPWp
namespace Go.Proofs.YtglcififcldchaaGreatDoor
open Go.RowKit
attribute [local go_sem ↓] Go.wp_at_zero Go.wp_at_succ
set_option linter.unusedVariables false

theorem rd8_same {w : World} {A : Option Addr} {n : Nat} {f g : Nat → Nat} (h : Rd .u8 w A n f) (h' : Rd .u8 w A n g) : ∀ j, j < n → f j = g j := fun j hj => by
  obtain ⟨a, e, h1⟩ := h j hj
  obtain ⟨a', e', h2⟩ := h' j hj
  rw [e] at e'
  injection e' with e'
  subst e'
  rw [h1] at h2
  injection h2 with h2
  injection h2 with _ h2
  exact_mod_cast h2
theorem li_bytesN {k : Nat} {w : World} {v : Value} {X : Int} (h : LimI k w v X) (hk : k ≤ 4096) : Calls Tryz.prog 84 #[v] w fun e w' =>
    ∃ S n c G, e = .returned (.slice S n c) ∧ Byt w' (.slice S n c) n G ∧ IsEnc X n G ∧ Own .u8 5 w' w.heap.size (.slice S n c) n G ∧ 3 ≤ n ∧ n ≤ 16387 ∧ (S = none → n = 0 ∧ c = 0) ∧ Below w.heap.size w w' :=
  (li_bytesO h hk).mono fun e w' ⟨v, p, h1, h2, h3⟩ => by
    obtain ⟨hp, G, hby, henc⟩ := h2.1.enc
    obtain ⟨F, hF⟩ := h2.2
    obtain ⟨S, c, rfl, hby⟩ := hby.form
    refine ⟨S, _, c, G, h1, hby, henc, hF.congr fun j hj => rd8_same hF.rd_ hby.rd j hj, by omega, by omega, fun e => ?_, h3⟩
    obtain ⟨ad, e', _⟩ := hby.rd.some_ (show 0 < 3 + 4 * p by omega)
    rw [e] at e'
    cases e'

set_option maxRecDepth 100000 in
set_option maxHeartbeats 4000000 in
theorem q_bytes0 (b : Bool) (A : Option Addr) (n c : Nat) (b' : Bool) (A' : Option Addr) (n' c' : Nat) (w : World) (k : Nat) (q : Rat) (hx : LimQ k w (.agg #[.bool b, .slice A n c, .bool b', .slice A' n' c']) q) (hk : k ≤ 4096) (h1 : 1 ≤ k) :
    Calls Tryz.prog 43 #[(.agg #[.bool b, .slice A n c, .bool b', .slice A' n' c'])] w fun e w' => ∃ v n, e = .returned v ∧ IsQB w' v q n ∧ Below w.heap.size w w' := by
  have x_0 := Lib.hid hx
  have BQ0 := Lib.hid (hx.bq h1)
  have BN := Lib.hid BQ0.out.1
  have BD := Lib.hid (show ((q.den : Int)).natAbs < 4294967296 ^ k from BQ0.out.2)
  clear hx
  go_enter Tryz.func43, Tryz.ntmps43
  go_wp2_with fail
  refine Calls.mono (q_plain (x_0.out.alloc_ _) (by omega) h1) ?_
  rintro e w1 ⟨v, rfl, h, hb⟩
  obtain ⟨b1, A1, n1, c1, d1, B1, m1, k1, rfl, -, -, -, h1, h2⟩ := h.form
  have hB := bun (hb)
  have Ka_1 := Lib.hid (show Blk w1 (w.heap.size) 26 #[.bool b, .slice A n c, .bool b', .slice A' n' c'] from (Blk.new _ _ (by simp) _ _).below hb)
  have z_1 := Lib.hid (h1)
  have z2_1 := Lib.hid (h2)
  have HB_1 := Lib.hid (hB)
  have hs_1 : w.heap.size ≤ w1.heap.size := HB_1.out.size
  have hz_1 : w.heap.size + 1 ≤ w1.heap.size := (by have h := hb.size; (try simp at h); omega)
  clear hB hb x_0
  obtain ⟨p10, p11, p12, p13, l1⟩ := Ka_1.out.use4
  obtain ⟨r10, r11, r12, r13⟩ := Ka_1.out.into4
  go_upto_region 2 with fail
  generalize hW : ((((w1.setCell ⟨w.heap.size, 0, none⟩ (.bool b1)).setCell ⟨w.heap.size, 1, none⟩ (.slice A1 n1 c1)).setCell ⟨w.heap.size, 2, none⟩ (.bool d1)).setCell ⟨w.heap.size, 3, none⟩ (.slice B1 m1 k1)) = w2
  have z_2 := Lib.hid (by have h := ((((z_1.out.one Ka_1.out (i := 0) (x := .bool b) (y := .bool b1) rfl nu).one (Ka_1.out.set_ 0 (.bool b1)) (i := 1) (x := .slice A n c) (y := .slice A1 n1 c1) rfl nu).one ((Ka_1.out.set_ 0 (.bool b1)).set_ 1 (.slice A1 n1 c1)) (i := 2) (x := .bool b') (y := .bool d1) rfl nu).one (((Ka_1.out.set_ 0 (.bool b1)).set_ 1 (.slice A1 n1 c1)).set_ 2 (.bool d1)) (i := 3) (x := .slice A' n' c') (y := .slice B1 m1 k1) rfl nu); rw [hW] at h; exact h)
  have z2_2 := Lib.hid (by have h := ((((z2_1.out.one Ka_1.out (i := 0) (x := .bool b) (y := .bool b1) rfl nu).one (Ka_1.out.set_ 0 (.bool b1)) (i := 1) (x := .slice A n c) (y := .slice A1 n1 c1) rfl nu).one ((Ka_1.out.set_ 0 (.bool b1)).set_ 1 (.slice A1 n1 c1)) (i := 2) (x := .bool b') (y := .bool d1) rfl nu).one (((Ka_1.out.set_ 0 (.bool b1)).set_ 1 (.slice A1 n1 c1)).set_ 2 (.bool d1)) (i := 3) (x := .slice A' n' c') (y := .slice B1 m1 k1) rfl nu); rw [hW] at h; exact h)
  have Ka_2 := Lib.hid (show Blk w2 (w.heap.size) 26 #[.bool b1, .slice A1 n1 c1, .bool d1, .slice B1 m1 k1] from by rw [← hW]; exact ((((Ka_1.out.set_ 0 (.bool b1)).set_ 1 (.slice A1 n1 c1)).set_ 2 (.bool d1)).set_ 3 (.slice B1 m1 k1)))
  have HB_2 := Lib.hid (show Below w.heap.size w w2 from by rw [← hW]; exact (bset (bset (bset (bset HB_1.out (by omega)) (by omega)) (by omega)) (by omega)))
  have hs_2 : w.heap.size ≤ w2.heap.size := HB_2.out.size
  have hz_2 : w1.heap.size ≤ w2.heap.size := by rw [← hW]; simp [World.setCell]
  have hq_2 := Lib.hid (show w2.heap.size = w1.heap.size from by rw [← hW]; simp [World.setCell])
  clear hW z_1 z2_1 Ka_1 HB_1 p10 p11 p12 p13 l1 r10 r11 r12 r13
  go_wp2
  obtain ⟨p20, p21, p22, p23, l2⟩ := Ka_2.out.use4
  have tok0 : True := trivial
  have tok1 : True := trivial
  go_region_held3 (fun w' => w'.cell? ⟨w.heap.size, 0, none⟩ = some (.bool b1) ∧ w'.cell? ⟨w.heap.size, 1, none⟩ = some (.slice A1 n1 c1) ∧ w'.cell? ⟨w.heap.size, 2, none⟩ = some (.bool d1) ∧ w'.cell? ⟨w.heap.size, 3, none⟩ = some (.slice B1 m1 k1)) (first | (refine ⟨?_, ?_, ?_, ?_⟩ <;> (first | with_reducible assumption | ((with_reducible refine Eq.trans (cell_drew _ _) ?_); with_reducible assumption) | ((rw [cell_far4 _ _ _ _ _ _ _ _ (by omega)]); with_reducible assumption) | ((repeat rw [cell_far2 _ _ _ _ _ _ (by omega)]); with_reducible assumption) | go_keep)) | trivial | go_keep)
    (first
      | (go_at_call 84; have _t := tok0; clear _t tok0; ((with_reducible refine Calls.mono (li_bytesN (IsInt.lim (k := k) (by first | exact z_2.out | exact z_2.out.drew_ | exact z_2.out.alloc_ _ | exact (z_2.out.alloc_ _).drew_) BN.out) hk) ?_)); rintro e w3 ⟨S3, q3, s3, G3, rfl, hy, he, ho, hl3, hg3, hn3, hb⟩; have E1 := Lib.hid he; have hB := (show Below w2.heap.size w2 w3 from by first | exact hb | exact bundrew hb | exact bun hb | exact bundrew (bun hb) | exact bun (bundrew hb)); have z_3 := Lib.hid (z_2.out.below hB); have z2_3 := Lib.hid (z2_2.out.below hB); have Ka_3 := Lib.hid (Ka_2.out.below hB); have y1_3 := Lib.hid (hy); have o1_3 := Lib.hid (ho); have HB_3 := Lib.hid (below_trans HB_2.out hB); have hs_3 : w.heap.size ≤ w3.heap.size := HB_3.out.size; have hz_3 : w2.heap.size + 0 ≤ w3.heap.size := (by have h := hb.size; (try simp at h); omega); clear hB hb z_2 z2_2 Ka_2 HB_2 p20 p21 p22 p23 l2; obtain ⟨p30, p31, p32, p33, l3⟩ := Ka_3.out.use4)
      | (go_at_call 84; have _t := tok1; clear _t tok1; ((with_reducible refine Calls.mono (li_bytesN (IsInt.lim (k := k) (by first | exact z2_3.out | exact z2_3.out.drew_ | exact z2_3.out.alloc_ _ | exact (z2_3.out.alloc_ _).drew_) BD.out) hk) ?_)); rintro e w4 ⟨S4, q4, s4, G4, rfl, hy, he, ho, hl4, hg4, hn4, hb⟩; have E2 := Lib.hid he; have hB := (show Below w3.heap.size w3 w4 from by first | exact hb | exact bundrew hb | exact bun hb | exact bundrew (bun hb) | exact bun (bundrew hb)); have z_4 := Lib.hid (z_3.out.below hB); have z2_4 := Lib.hid (z2_3.out.below hB); have y1_4 := Lib.hid (y1_3.out.below hB); have o1_4 := Lib.hid (o1_3.out.below hB); have Ka_4 := Lib.hid (Ka_3.out.below hB); have y2_4 := Lib.hid (hy); have HB_4 := Lib.hid (below_trans HB_3.out hB); have hs_4 : w.heap.size ≤ w4.heap.size := HB_4.out.size; have hz_4 : w3.heap.size + 0 ≤ w4.heap.size := (by have h := hb.size; (try simp at h); omega); clear hB hb z_3 z2_3 y1_3 o1_3 Ka_3 HB_3 p30 p31 p32 p33 l3; obtain ⟨p40, p41, p42, p43, l4⟩ := Ka_4.out.use4))
  have he3 : ((q3 : Int) == 0) = false := by rw [beq_eq_false_iff_ne]; omega
  have he4 : ((q4 : Int) == 0) = false := by rw [beq_eq_false_iff_ne]; omega
  go_wp2_with (at_builtin; refine wpList_app rfl (.tmp 21) (.tmp 22) 40 rfl .u8 5 Tryz.underlying40 1 u8_info (by omega) w2.heap.size _ q3 G3 rfl o1_4.out S4 q4 s4 G4 rfl y2_4.out.rd hn4 (by omega) (by omega) ?_; intro v5 w5 hown5 hb5 hs5)
  go_ret
  refine ⟨_, _, rfl, ⟨appF G3 q3 G4, own_byt hown5 (fun j hj => ?_), q3, q4, rfl, E1.out.congr (fun j hj => by unfold appF; rw [if_pos hj]), E2.out.congr (fun j hj => by show appF G3 q3 G4 (q3 + j) = _; unfold appF; rw [if_neg (by omega), Nat.add_sub_cancel_left])⟩, HB_4.out.trans (hb5.mono (by omega))⟩
  unfold appF
  split
  · obtain ⟨_, _, _, _, _, hG⟩ := y1_4.out
    exact hG _ (by omega)
  · obtain ⟨_, _, _, _, _, hG⟩ := y2_4.out
    exact hG _ (by omega)

theorem q_bytes {k : Nat} {w : World} {v : Value} {q : Rat} (h : LimQ k w v q) (hk : k ≤ 4096) (h1 : 1 ≤ k) : Calls Tryz.prog 43 #[v] w fun e w' => ∃ v n, e = .returned v ∧ IsQB w' v q n ∧ Below w.heap.size w w' := by
  have H := h
  obtain ⟨X, Y, h, rfl⟩ := h
  obtain ⟨b, A, n, c, b', A', n', c', rfl, -, -⟩ := h.form
  exact q_bytes0 b A n c b' A' n' c' w k _ H hk h1
end Go.Proofs.YtglcififcldchaaGreatDoor

/- The document's own fractions: Bytes. -/
namespace Go.Proofs.YtglcififcldchaaGreatDoor
open Go.RowKit
attribute [local go_sem ↓] Go.wp_at_zero Go.wp_at_succ
set_option linter.unusedVariables false

theorem own_none8R (w : World) (f : Nat → Nat) : Own .u8 5 (w.alloc (.cells #[] 5)) w.heap.size (.slice (some ⟨w.heap.size, 0, none⟩) 0 0) 0 f :=
  World.ownsRow_lit w _ 0 (Nat.le_refl _) (by simp only [maxLen]; omega) rfl
theorem li_rbytesN {k : Nat} {w : World} {v : Value} {X : Int} (h : LimI k w v X) (hk : k ≤ 4096) : Calls Tryz.prog 88 #[v] w fun e w' =>
    ∃ S n c G, e = .returned (.slice S n c) ∧ Byt w' (.slice S n c) n G ∧ IsEnc X n G ∧ 3 ≤ n ∧ n ≤ 16387 ∧ (S = none → n = 0 ∧ c = 0) ∧ Below w.heap.size w w' :=
  (li_rwbytes h hk).mono fun e w' ⟨v, p, h1, h2, h3⟩ => by
    obtain ⟨hp, G, hby, henc⟩ := h2.enc
    obtain ⟨S, c, rfl, hby⟩ := hby.form
    refine ⟨S, _, c, G, h1, hby, henc, by omega, by omega, fun e => ?_, h3⟩
    obtain ⟨ad, e', _⟩ := hby.rd.some_ (show 0 < 3 + 4 * p by omega)
    rw [e] at e'
    cases e'

set_option maxRecDepth 100000 in
set_option maxHeartbeats 4000000 in
theorem r_bytes0 (b : Bool) (A : Option Addr) (n c : Nat) (b' : Bool) (A' : Option Addr) (n' c' : Nat) (w : World) (k : Nat) (q : Rat) (hx : LimQ k w (.agg #[.bool b, .slice A n c, .bool b', .slice A' n' c']) q) (hk : k ≤ 4096) (h1 : 1 ≤ k) :
    Calls Tryz.prog 47 #[(.agg #[.bool b, .slice A n c, .bool b', .slice A' n' c'])] w fun e w' => ∃ v n, e = .returned v ∧ IsQB w' v q n ∧ Below w.heap.size w w' := by
  have x_0 := Lib.hid hx
  have BQ0 := Lib.hid (hx.bq h1)
  have BN := Lib.hid BQ0.out.1
  have BD := Lib.hid (show ((q.den : Int)).natAbs < 4294967296 ^ k from BQ0.out.2)
  clear hx
  go_enter Tryz.func47, Tryz.ntmps47
  go_wp2_with fail
  refine Calls.mono (r_plain (x_0.out.alloc_ _) (by omega)) ?_
  rintro e w1 ⟨v, rfl, h, hb⟩
  obtain ⟨b1, A1, n1, c1, d1, B1, m1, k1, rfl, -, -, -, h1, h2⟩ := h.form
  have hB := bun (hb)
  have Ka_1 := Lib.hid (show Blk w1 (w.heap.size) 26 #[.bool b, .slice A n c, .bool b', .slice A' n' c'] from (Blk.new _ _ (by simp) _ _).below hb)
  have z_1 := Lib.hid (h1)
  have z2_1 := Lib.hid (h2)
  have HB_1 := Lib.hid (hB)
  have hs_1 : w.heap.size ≤ w1.heap.size := HB_1.out.size
  have hz_1 : w.heap.size + 1 ≤ w1.heap.size := (by have h := hb.size; (try simp at h); omega)
  clear hB hb x_0
  go_wp2_with fail
  refine Calls.mono (li_rbytesN (IsInt.lim (k := k) (z_1.out.alloc_ _) BN.out) hk) ?_
  rintro e w2 ⟨S2, q2, s2, G2, rfl, hy, he, hl2, hg2, hn2, hb⟩
  have E1 := Lib.hid he
  have hB := bun (hb)
  have z_2 := Lib.hid (z_1.out.below hB)
  have z2_2 := Lib.hid (z2_1.out.below hB)
  have Ka_2 := Lib.hid (Ka_1.out.below hB)
  have Kx_2 := Lib.hid (show Blk w2 (w1.heap.size) 26 #[.bool b1, .slice A1 n1 c1, .bool d1, .slice B1 m1 k1] from (Blk.new _ _ (by simp) _ _).below hb)
  have y1_2 := Lib.hid (hy)
  have HB_2 := Lib.hid (below_trans HB_1.out hB)
  have hs_2 : w.heap.size ≤ w2.heap.size := HB_2.out.size
  have hz_2 : w1.heap.size + 1 ≤ w2.heap.size := (by have h := hb.size; (try simp at h); omega)
  clear hB hb z_1 z2_1 Ka_1 HB_1
  obtain ⟨p10, p11, p12, p13, l1⟩ := Kx_2.out.use4
  go_wp2_with fail
  refine Calls.mono (li_rbytesN (IsInt.lim (k := k) z2_2.out BD.out) hk) ?_
  rintro e w3 ⟨S3, q3, s3, G3, rfl, hy, he, hl3, hg3, hn3, hb⟩
  have E2 := Lib.hid he
  have hB := hb
  have z_3 := Lib.hid (z_2.out.below hB)
  have z2_3 := Lib.hid (z2_2.out.below hB)
  have y1_3 := Lib.hid (y1_2.out.below hB)
  have Ka_3 := Lib.hid (Ka_2.out.below hB)
  have Kx_3 := Lib.hid (Kx_2.out.below hB)
  have y2_3 := Lib.hid (hy)
  have HB_3 := Lib.hid (below_trans HB_2.out hB)
  have hs_3 : w.heap.size ≤ w3.heap.size := HB_3.out.size
  have hz_3 : w2.heap.size + 0 ≤ w3.heap.size := (by have h := hb.size; (try simp at h); omega)
  clear hB hb z_2 z2_2 y1_2 Ka_2 Kx_2 HB_2 p10 p11 p12 p13 l1
  have he3 : ((q2 : Int) == 0) = false := by rw [beq_eq_false_iff_ne]; omega
  have he4 : ((q3 : Int) == 0) = false := by rw [beq_eq_false_iff_ne]; omega
  go_wp2_with (first
    | (at_builtin; refine wpList_app rfl (.tmp 22) (.tmp 23) 40 rfl .u8 5 Tryz.underlying40 1 u8_info (by omega) w3.heap.size _ 0 (fun _ => 0) rfl (own_none8R w3 _) S2 q2 s2 G2 rfl (y1_3.out.alloc_ _).rd hn2 (by omega) (by simp) ?_; intro v5 w5 hown5 hb5 hs5; have hb35 := (below_new w3 _).trans hb5; have Y2 := y2_3.out.below hb35; rw [Nat.zero_add] at hown5; have hs35 := hb35.size)
    | (at_builtin; refine wpList_app rfl (.tmp 24) (.tmp 25) 40 rfl .u8 5 Tryz.underlying40 1 u8_info (by omega) w3.heap.size _ q2 _ rfl hown5 S3 q3 s3 G3 rfl Y2.rd hn3 (by omega) (by omega) ?_; intro v6 w6 hown6 hb6 hs6))
  go_ret
  have e0 : ∀ j, j < q2 → appF (appF (fun _ => 0) 0 G2) q2 G3 j = G2 j := fun j hj => by unfold appF; rw [if_pos hj, if_neg (by omega), Nat.sub_zero]
  have e1 : ∀ j, appF (appF (fun _ => 0) 0 G2) q2 G3 (q2 + j) = G3 j := fun j => by show (if q2 + j < q2 then _ else _) = _; rw [if_neg (by omega), Nat.add_sub_cancel_left]
  refine ⟨_, _, rfl, ⟨_, own_byt hown6 (fun j hj => ?_), q2, q3, rfl, E1.out.congr e0, E2.out.congr (fun j _ => e1 j)⟩, HB_3.out.trans ((hb35.trans hb6).mono hs_3)⟩
  by_cases h : j < q2
  · rw [e0 j h]
    obtain ⟨_, _, _, _, _, hG⟩ := y1_3.out
    exact hG _ h
  · obtain ⟨i, rfl⟩ : ∃ i, j = q2 + i := ⟨j - q2, by omega⟩
    rw [e1]
    obtain ⟨_, _, _, _, _, hG⟩ := y2_3.out
    exact hG _ (by omega)

theorem r_bytes {k : Nat} {w : World} {v : Value} {q : Rat} (h : LimQ k w v q) (hk : k ≤ 4096) (h1 : 1 ≤ k) : Calls Tryz.prog 47 #[v] w fun e w' => ∃ v n, e = .returned v ∧ IsQB w' v q n ∧ Below w.heap.size w w' := by
  have H := h
  obtain ⟨X, Y, h, rfl⟩ := h
  obtain ⟨b, A, n, c, b', A', n', c', rfl, -, -⟩ := h.form
  exact r_bytes0 b A n c b' A' n' c' w k _ H hk h1
end Go.Proofs.YtglcififcldchaaGreatDoor

/- Contracts of the document's own fractions: Text. -/
namespace Go.Proofs.YtglcififcldchaaGreatDoor
open Go.RowKit
attribute [local go_sem ↓] Go.wp_at_zero Go.wp_at_succ
set_option linter.unusedVariables false

theorem textI_den (q : Rat) : textI (q.den : Int) = decS q.den := by
  unfold textI
  rw [if_neg (by omega), Int.natAbs_natCast]
theorem decS_one_iff {N k : Nat} (hN : N < 4294967296 ^ k) (hk : k ≤ 1000) (h : N ≠ 1) : ((decS N).toList == [49]) = false := by
  rw [beq_eq_false_iff_ne]
  intro e
  have h10 : N < 10 ^ (10 * k) := Nat.lt_of_lt_of_le hN (by rw [Nat.pow_mul]; exact Nat.pow_le_pow_left (by decide) _)
  obtain ⟨_, h2⟩ := decS_read h10 (by omega)
  have e1 : decS 1 = ⟨#[49]⟩ := by kernel_rfl
  have e2 : decS N = ⟨#[49]⟩ := by
    have : (decS N).data.toList = [49] := by
      rw [Lib.toList_data] at e
      exact e
    exact ByteArray.ext (Array.toList_inj.1 this)
  obtain ⟨_, h3⟩ := decS_read (N := 1) (q := 1) (by decide) (by omega)
  rw [e2] at h2
  rw [e1] at h3
  omega

set_option maxRecDepth 100000 in
set_option maxHeartbeats 4000000 in
theorem r_text1 (b : Bool) (A : Option Addr) (n c : Nat) (b' : Bool) (A' : Option Addr) (n' c' : Nat) (w : World) (k : Nat) (q : Rat) (hx : LimQ k w (.agg #[.bool b, .slice A n c, .bool b', .slice A' n' c']) q) (hk : k ≤ 1000) (h1 : 1 ≤ k) (hd : q.den = 1) :
    Calls Tryz.prog 45 #[(.agg #[.bool b, .slice A n c, .bool b', .slice A' n' c'])] w fun e w' => e = .returned (.string (textQ q)) ∧ Below w.heap.size w w' := by
  have x_0 := Lib.hid hx
  have BQ0 := Lib.hid (hx.bq h1)
  have BN := Lib.hid BQ0.out.1
  have BD := Lib.hid (show ((q.den : Int)).natAbs < 4294967296 ^ k from BQ0.out.2)
  clear hx
  have HT : Hid (textQ q = textI q.num) := by show textQ q = _; unfold textQ; rw [if_pos hd]
  have hl : ((decS q.den).toList == [49]) = true := by rw [hd, show decS 1 = ⟨#[49]⟩ from by kernel_rfl, Lib.toList_data]; rfl
  clear hd
  go_enter Tryz.func45, Tryz.ntmps45
  go_wp2_with fail
  refine Calls.mono (r_plain (x_0.out.alloc_ _) (by omega)) ?_
  rintro e w1 ⟨v, rfl, h, hb⟩
  obtain ⟨b1, A1, n1, c1, d1, B1, m1, k1, rfl, -, -, -, h1, h2⟩ := h.form
  have hB := bun (hb)
  have Ka_1 := Lib.hid (show Blk w1 (w.heap.size) 26 #[.bool b, .slice A n c, .bool b', .slice A' n' c'] from (Blk.new _ _ (by simp) _ _).below hb)
  have xn_1 := Lib.hid (h1)
  have xd_1 := Lib.hid (h2)
  have HB_1 := Lib.hid (hB)
  have hs_1 : w.heap.size ≤ w1.heap.size := HB_1.out.size
  have hz_1 : w.heap.size + 1 ≤ w1.heap.size := (by have h := hb.size; (try simp at h); omega)
  clear hB hb x_0
  go_wp2_with fail
  refine Calls.mono (rtext_any (k := k) (N := q.den) (LimI.mag (IsInt.lim (k := k) (xd_1.out.alloc_ _) BD.out)) hk) ?_
  rintro e w2 ⟨rfl, hb⟩
  have hB := bun (hb)
  have xn_2 := Lib.hid (xn_1.out.below hB)
  have xd_2 := Lib.hid (xd_1.out.below hB)
  have Ka_2 := Lib.hid (Ka_1.out.below hB)
  have Kx_2 := Lib.hid (show Blk w2 (w1.heap.size) 26 #[.bool b1, .slice A1 n1 c1, .bool d1, .slice B1 m1 k1] from (Blk.new _ _ (by simp) _ _).below hb)
  have HB_2 := Lib.hid (below_trans HB_1.out hB)
  have hs_2 : w.heap.size ≤ w2.heap.size := HB_2.out.size
  have hz_2 : w1.heap.size + 1 ≤ w2.heap.size := (by have h := hb.size; (try simp at h); omega)
  clear hB hb xn_1 xd_1 Ka_1 HB_1
  obtain ⟨p10, p11, p12, p13, l1⟩ := Kx_2.out.use4
  go_wp2_with fail
  refine Calls.mono (li_rtext (IsInt.lim (k := k) xn_2.out BN.out) hk) ?_
  rintro e w3 ⟨rfl, hb⟩
  have hB := hb
  have xn_3 := Lib.hid (xn_2.out.below hB)
  have xd_3 := Lib.hid (xd_2.out.below hB)
  have Ka_3 := Lib.hid (Ka_2.out.below hB)
  have Kx_3 := Lib.hid (Kx_2.out.below hB)
  have HB_3 := Lib.hid (below_trans HB_2.out hB)
  have hs_3 : w.heap.size ≤ w3.heap.size := HB_3.out.size
  have hz_3 : w2.heap.size + 0 ≤ w3.heap.size := (by have h := hb.size; (try simp at h); omega)
  clear hB hb xn_2 xd_2 Ka_2 Kx_2 HB_2 p10 p11 p12 p13 l1
  go_wp2
  go_ret
  exact ⟨by rw [HT.out]; rfl, HB_3.out⟩

set_option maxRecDepth 100000 in
set_option maxHeartbeats 4000000 in
theorem r_text0 (b : Bool) (A : Option Addr) (n c : Nat) (b' : Bool) (A' : Option Addr) (n' c' : Nat) (w : World) (k : Nat) (q : Rat) (hx : LimQ k w (.agg #[.bool b, .slice A n c, .bool b', .slice A' n' c']) q) (hk : k ≤ 1000) (h1 : 1 ≤ k) (hd : q.den ≠ 1) :
    Calls Tryz.prog 45 #[(.agg #[.bool b, .slice A n c, .bool b', .slice A' n' c'])] w fun e w' => e = .returned (.string (textQ q)) ∧ Below w.heap.size w w' := by
  have x_0 := Lib.hid hx
  have BQ0 := Lib.hid (hx.bq h1)
  have BN := Lib.hid BQ0.out.1
  have BD := Lib.hid (show ((q.den : Int)).natAbs < 4294967296 ^ k from BQ0.out.2)
  clear hx
  have HT : Hid (textQ q = textI q.num ++ ⟨#[47]⟩ ++ decS q.den) := by show textQ q = _; unfold textQ; rw [if_neg hd, textI_den]
  have hl := decS_one_iff BQ0.out.2 hk hd
  have s1 := textI_size' BQ0.out.1 hk
  have s2 := decS_size BQ0.out.2 hk
  have hcat := fun wq => run_string_add (P := Tryz.prog) wq (textI q.num) ⟨#[47]⟩ (by omega) (by show 1 ≤ _; omega)
  have s3 : (textI q.num ++ ⟨#[47]⟩).size ≤ 40002 := by rw [ByteArray.size_append]; show _ + 1 ≤ _; omega
  have hcat2 := fun wq => run_string_add (P := Tryz.prog) wq (textI q.num ++ ⟨#[47]⟩) (decS q.den) (by omega) (by omega)
  clear hd
  generalize hS1 : textI q.num = S1 at *
  generalize hS2 : decS q.den = S2 at *
  have HS1 := Lib.hid hS1
  have HS2 := Lib.hid hS2
  clear hS1 hS2
  go_enter Tryz.func45, Tryz.ntmps45
  go_wp2_with fail
  refine Calls.mono (r_plain (x_0.out.alloc_ _) (by omega)) ?_
  rintro e w1 ⟨v, rfl, h, hb⟩
  obtain ⟨b1, A1, n1, c1, d1, B1, m1, k1, rfl, -, -, -, h1, h2⟩ := h.form
  have hB := bun (hb)
  have Ka_1 := Lib.hid (show Blk w1 (w.heap.size) 26 #[.bool b, .slice A n c, .bool b', .slice A' n' c'] from (Blk.new _ _ (by simp) _ _).below hb)
  have xn_1 := Lib.hid (h1)
  have xd_1 := Lib.hid (h2)
  have HB_1 := Lib.hid (hB)
  have hs_1 : w.heap.size ≤ w1.heap.size := HB_1.out.size
  have hz_1 : w.heap.size + 1 ≤ w1.heap.size := (by have h := hb.size; (try simp at h); omega)
  clear hB hb x_0
  go_wp2_with fail
  refine Calls.mono (rtext_any (k := k) (N := q.den) (LimI.mag (IsInt.lim (k := k) (xd_1.out.alloc_ _) BD.out)) hk) ?_
  rintro e w2 ⟨rfl, hb⟩
  rw [HS2.out]
  have hB := bun (hb)
  have xn_2 := Lib.hid (xn_1.out.below hB)
  have xd_2 := Lib.hid (xd_1.out.below hB)
  have Ka_2 := Lib.hid (Ka_1.out.below hB)
  have Kx_2 := Lib.hid (show Blk w2 (w1.heap.size) 26 #[.bool b1, .slice A1 n1 c1, .bool d1, .slice B1 m1 k1] from (Blk.new _ _ (by simp) _ _).below hb)
  have HB_2 := Lib.hid (below_trans HB_1.out hB)
  have hs_2 : w.heap.size ≤ w2.heap.size := HB_2.out.size
  have hz_2 : w1.heap.size + 1 ≤ w2.heap.size := (by have h := hb.size; (try simp at h); omega)
  clear hB hb xn_1 xd_1 Ka_1 HB_1
  obtain ⟨p10, p11, p12, p13, l1⟩ := Kx_2.out.use4
  go_wp2
  obtain ⟨p20, p21, p22, p23, l2⟩ := Kx_2.out.use4
  have tok0 : True := trivial
  have tok1 : True := trivial
  go_region_held3 (fun w' => w'.cell? ⟨w1.heap.size, 0, none⟩ = some (.bool b1) ∧ w'.cell? ⟨w1.heap.size, 1, none⟩ = some (.slice A1 n1 c1) ∧ w'.cell? ⟨w1.heap.size, 2, none⟩ = some (.bool d1) ∧ w'.cell? ⟨w1.heap.size, 3, none⟩ = some (.slice B1 m1 k1)) (first | (refine ⟨?_, ?_, ?_, ?_⟩ <;> (first | with_reducible assumption | ((with_reducible refine Eq.trans (cell_drew _ _) ?_); with_reducible assumption) | ((rw [cell_far4 _ _ _ _ _ _ _ _ (by omega)]); with_reducible assumption) | ((repeat rw [cell_far2 _ _ _ _ _ _ (by omega)]); with_reducible assumption) | go_keep)) | trivial | go_keep)
    (first
      | (go_at_call 87; have _t := tok0; clear _t tok0; ((with_reducible refine Calls.mono (li_rtext (IsInt.lim (k := k) (by first | exact xn_2.out | exact xn_2.out.drew_ | exact xn_2.out.alloc_ _ | exact (xn_2.out.alloc_ _).drew_) BN.out) hk) ?_)); rintro e w3 ⟨rfl, hb⟩; rw [HS1.out]; have hB := (show Below w2.heap.size w2 w3 from by first | exact hb | exact bundrew hb | exact bun hb | exact bundrew (bun hb) | exact bun (bundrew hb)); have xn_3 := Lib.hid (xn_2.out.below hB); have xd_3 := Lib.hid (xd_2.out.below hB); have Ka_3 := Lib.hid (Ka_2.out.below hB); have Kx_3 := Lib.hid (Kx_2.out.below hB); have HB_3 := Lib.hid (below_trans HB_2.out hB); have hs_3 : w.heap.size ≤ w3.heap.size := HB_3.out.size; have hz_3 : w2.heap.size + 0 ≤ w3.heap.size := (by have h := hb.size; (try simp at h); omega); clear hB hb xn_2 xd_2 Ka_2 Kx_2 HB_2 p10 p11 p12 p13 l1 p20 p21 p22 p23 l2; obtain ⟨p30, p31, p32, p33, l3⟩ := Kx_3.out.use4)
      | (go_at_call 86; have _t := tok1; clear _t tok1; ((with_reducible refine Calls.mono (rtext_any (k := k) (N := q.den) (LimI.mag (IsInt.lim (k := k) (by first | exact xd_3.out | exact xd_3.out.drew_ | exact xd_3.out.alloc_ _ | exact (xd_3.out.alloc_ _).drew_) BD.out)) hk) ?_)); rintro e w4 ⟨rfl, hb⟩; rw [HS2.out]; have hB := (show Below w3.heap.size w3 w4 from by first | exact hb | exact bundrew hb | exact bun hb | exact bundrew (bun hb) | exact bun (bundrew hb)); have xn_4 := Lib.hid (xn_3.out.below hB); have xd_4 := Lib.hid (xd_3.out.below hB); have Ka_4 := Lib.hid (Ka_3.out.below hB); have Kx_4 := Lib.hid (Kx_3.out.below hB); have HB_4 := Lib.hid (below_trans HB_3.out hB); have hs_4 : w.heap.size ≤ w4.heap.size := HB_4.out.size; have hz_4 : w3.heap.size + 0 ≤ w4.heap.size := (by have h := hb.size; (try simp at h); omega); clear hB hb xn_3 xd_3 Ka_3 Kx_3 HB_3 p30 p31 p32 p33 l3; obtain ⟨p40, p41, p42, p43, l4⟩ := Kx_4.out.use4))
  go_wp2
  go_ret
  exact ⟨by rw [HT.out]; rfl, HB_4.out⟩

theorem r_text {k : Nat} {w : World} {v : Value} {q : Rat} (h : LimQ k w v q) (hk : k ≤ 1000) (h1 : 1 ≤ k) : Calls Tryz.prog 45 #[v] w fun e w' => e = .returned (.string (textQ q)) ∧ Below w.heap.size w w' := by
  have H := h
  obtain ⟨X, Y, h, rfl⟩ := h
  obtain ⟨b, A, n, c, b', A', n', c', rfl, -, -⟩ := h.form
  by_cases hd : (ratOf X Y).den = 1
  · exact r_text1 b A n c b' A' n' c' w k _ H hk h1 hd
  · exact r_text0 b A n c b' A' n' c' w k _ H hk h1 hd
end Go.Proofs.YtglcififcldchaaGreatDoor
