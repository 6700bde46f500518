/- Contracts: bytes.Clone, Row, Rows. -/
import Derived.Test.YtldbnlmimjamnaaDb
import Derived.WalkLawsBesides
namespace Go.Proofs.Ytldbnlmimjamnaa
open Go.RowKit

theorem below_new (w : World) (o : Obj) : Below w.heap.size w (w.alloc o) := (Below.refl _ _).alloc (Nat.le_refl _) _
theorem u8_info : (Try.prog.info? 5).map (fun i => (i.zero, i.size, i.bytes)) = some (some (.int .u8 0), 1, 1) := by kernel_rfl
theorem own_none8 (w : World) (f : Nat → Nat) : Own .u8 5 (w.alloc (.cells #[] 5)) w.heap.size (.slice (some ⟨w.heap.size, 0, none⟩) 0 0) 0 f :=
  World.ownsRow_lit w _ 0 (Nat.le_refl _) (by simp only [maxLen]; omega) rfl
theorem row_one {K : IntKind} {t : TypeId} (w : World) (x : Nat) : Row K t (w.alloc (.cells #[.int K (x : Nat)] t)) w.heap.size 1 (fun _ => x) :=
  ⟨_, heap_alloc_new w _, rfl, fun j hj => by
    obtain rfl : j = 0 := by omega
    rfl⟩
/-- Blocks that are new behind w. -/
def New (w : World) : Nat → Prop := fun k => w.heap.size ≤ k
theorem own_sec {w : World} {base : Nat} {v : Value} {f : Nat → Nat} {t : TypeId} (h : Own .u8 t w base v 64 f) (hf : ∀ j, j < 64 → f j < 256) : Sec (fun k => base ≤ k) w v f := by
  rcases h.form with ⟨_, h0⟩ | ⟨g, c, rfl, hg, hc⟩
  · omega
  · exact ⟨g, 0, c, rfl, hc, hg, fun j hj => by have := h.rd_.at_ hj; rwa [add_mk] at this, hf⟩

set_option maxHeartbeats 1000000 in
theorem clone_sec {R : Nat → Prop} {w : World} {v : Value} {f : Nat → Nat} (h : Sec R w v f) :
    Calls Try.prog 32 #[v] w fun e w' => ∃ v', e = .returned v' ∧ Sec (New w) w' v' f ∧ Below w.heap.size w w' := by
  obtain ⟨g, o, c, rfl, _, _, hr, hf⟩ := h.rd
  have HR := Lib.hid (hr.below (below_new w (.cells #[] 5)))
  have HF := Lib.hid hf
  have hown := own_none8 w f
  have hnil := Lib.run_eql_slice_nil (P := Try.prog) w 31 5 (some ⟨g, o, none⟩) 64 c 0 0 Try.underlying31
  clear hr hf h
  go_enter Try.func32, Try.ntmps32
  go_wp2_with (at_builtin; refine wpList_app rfl _ _ 31 rfl .u8 5 Try.underlying31 1 u8_info (by omega) w.heap.size _ 0 f rfl hown (some ⟨g, o, none⟩) 64 c f rfl HR.out (fun h => by cases h) (by omega) (by simp) ?_; intro v2 w5 hown2 hb2 hsz2)
  clear hnil
  have HO := Lib.hid hown2
  have HB := Lib.hid ((below_new w (.cells #[] 5)).trans hb2)
  clear hown hown2 hb2 hsz2
  go_wp2
  go_ret
  refine ⟨v2, rfl, ?_, HB.out⟩
  have h2 := HO.out
  rw [Nat.zero_add] at h2
  exact own_sec (h2.congr fun j _ => by simp [appF]) HF.out
theorem clone_nil (n c : Nat) (w : World) :
    Calls Try.prog 32 #[.slice none n c] w fun e w' => e = .returned (.slice none 0 0) ∧ w = w' := by
  have hnil := Lib.run_eql_slice_nil (P := Try.prog) w 31 5 none n c 0 0 Try.underlying31
  go_enter Try.func32, Try.ntmps32
  go_wp2
  go_ret
  exact ⟨rfl, rfl⟩
theorem clone_o {R : Nat → Prop} {w : World} {v : Value} {s : Option (Nat → Nat)} (h : SecO R w v s) :
    Calls Try.prog 32 #[v] w fun e w' => ∃ v', e = .returned v' ∧ SecO (New w) w' v' s ∧ Below w.heap.size w w' := by
  cases s with
  | some f => exact clone_sec h
  | none =>
    obtain rfl : v = _ := h
    refine (clone_nil 0 0 w).mono ?_
    rintro e w' ⟨rfl, rfl⟩
    exact ⟨_, rfl, rfl, Below.refl _ _⟩

theorem clone_os {R : Nat → Prop} {w : World} {v : Value} {s : Option (Nat → Nat)} (h : SecO R w v s) :
    Calls Try.prog 32 #[v] w fun e w' => ∃ a n c, e = .returned (.slice a n c) ∧ SecO (New w) w' (.slice a n c) s ∧ Below w.heap.size w w' :=
  (clone_o h).mono fun _ _ ⟨v, h1, h2, h3⟩ => by
    obtain ⟨a, n, c, rfl⟩ := h2.form
    exact ⟨a, n, c, h1, h2, h3⟩

/-- What Row makes. -/
def RowPost (w w' : World) (e : Ending) (x : Nat) (bad : Bool) : Prop := ∃ v, e = .returned v ∧ Own .u8 5 w' w.heap.size v (if bad then 65 else 64) (fun _ => x) ∧ Below w.heap.size w w'
set_option maxHeartbeats 1000000 in
theorem row_any (x : Nat) (bad : Bool) (w : World) :
    Calls Try.prog 19 #[.int .u8 (x : Nat), .bool bad] w fun e w' => RowPost w w' e x bad := by
  go_enter Try.func19, Try.ntmps19
  go_wp2
  go_loopw [5, 6] (fun v i wr => ∃ k : Nat, k ≤ 64 ∧ i = .int .i64 k ∧ Own .u8 5 wr w.heap.size v k (fun _ => x) ∧ Below w.heap.size w wr) (fun _ i _ => 64 - (intOf i).toNat)
  case atStart => exact ⟨0, by omega, rfl, Own.nil, Below.refl _ _⟩
  case round =>
    obtain ⟨k, hk, rfl, ho, hb⟩ := hrel
    have HO := Lib.hid ho
    have HB := Lib.hid hb
    have hs := hb.size
    clear ho hb
    by_cases hlt : k < 64
    · go_wp2_with (at_builtin; refine wpList_app rfl (.tmp 11) (.tmp 13) 31 rfl .u8 5 Try.underlying31 1 u8_info (by omega) w.heap.size _ k _ rfl (HO.out.alloc (.cells #[.int .u8 (x : Nat)] 5)) (some ⟨wr.heap.size, 0, none⟩) 1 1 (fun _ => x) rfl ((row_one wr x).rd0 (Nat.le_refl _)) (fun h => by cases h) (by omega) (by simp; omega) ?_; intro v2 w2 hown2 hb2 hsz2)
      have HO2 := Lib.hid hown2
      have HB2 := Lib.hid ((HB.out.alloc hs (.cells #[.int .u8 (x : Nat)] 5)).trans hb2)
      clear hown2 hb2 hsz2
      go_wp2
      go_roundw
      case rel => exact ⟨k + 1, by omega, by go_num, HO2.out.congr fun j _ => by simp [appF], HB2.out⟩
      case measure => simp [intOf]; omega
    · obtain rfl : k = 64 := by omega
      cases bad
      · go_wp2
        go_ret
        exact ⟨_, rfl, HO.out, HB.out⟩
      · go_wp2_with (at_builtin; refine wpList_app rfl (.tmp 16) (.tmp 18) 31 rfl .u8 5 Try.underlying31 1 u8_info (by omega) w.heap.size _ 64 _ rfl (HO.out.alloc (.cells #[.int .u8 (x : Nat)] 5)) (some ⟨wr.heap.size, 0, none⟩) 1 1 (fun _ => x) rfl ((row_one wr x).rd0 (Nat.le_refl _)) (fun h => by cases h) (by omega) (by simp; omega) ?_; intro v2 w2 hown2 hb2 hsz2)
        have HO2 := Lib.hid hown2
        have HB2 := Lib.hid ((HB.out.alloc hs (.cells #[.int .u8 (x : Nat)] 5)).trans hb2)
        clear hown2 hb2 hsz2
        go_wp2
        go_ret
        exact ⟨v2, rfl, HO2.out.congr fun j _ => by simp [appF], HB2.out⟩
theorem row_sec (x : Nat) (hx : x < 256) (w : World) :
    Calls Try.prog 19 #[.int .u8 (x : Nat), .bool false] w fun e w' => ∃ v, e = .returned v ∧ Sec (New w) w' v (fun _ => x) ∧ Below w.heap.size w w' :=
  (row_any x false w).mono fun _ _ ⟨v, h1, h2, h3⟩ => ⟨v, h1, own_sec h2 (fun _ _ => hx), h3⟩

set_option maxHeartbeats 1000000 in
theorem rows_same (A : Option Addr) (n c : Nat) (f : Nat → Nat) (B : Option Addr) (d : Nat) (h : Nat → Nat) (w : World) (ha : Rd .u8 w A n f) (hb : Rd .u8 w B n h) (hn : n ≤ 4611686018427387904) :
    Calls Try.prog 22 #[.slice A n c, .slice B n d] w fun e w' => ∃ q : Bool, e = .returned (.bool q) ∧ (q = true ↔ ∀ j, j < n → f j = h j) ∧ Below w.heap.size w w' := by
  go_enter Try.func22, Try.ntmps22
  go_wp2
  go_loopw [5] (fun v wr => ∃ k : Nat, k ≤ n ∧ v = .int .i64 k ∧ Below w.heap.size w wr ∧ ∀ j, j < k → f j = h j) (fun v _ => n - (intOf v).toNat)
  case atStart => exact ⟨0, Nat.zero_le _, rfl, Below.refl _ _, fun j hj => absurd hj (by omega)⟩
  case round =>
    obtain ⟨k, hk, rfl, hbl, hall⟩ := hrel
    have HA := Lib.hid ha
    have HB := Lib.hid hb
    have HALL := Lib.hid hall
    clear ha hb hall
    by_cases hlt : k < n
    · obtain ⟨ad, rfl, hc1⟩ := (HA.out.below hbl) k hlt
      obtain ⟨bd, rfl, hc2⟩ := (HB.out.below hbl) k hlt
      by_cases hq : f k = h k
      · rw [← hq] at hc2
        have HQ := Lib.hid hq
        clear hq
        go_wp2
        go_quiet (fail)
        go_wp2
        go_roundw
        case rel => exact ⟨k + 1, by omega, by go_num, Below.drewN_ hbl _, fun j hj => by
          by_cases hjk : j = k
          · subst hjk; exact HQ.out
          · exact HALL.out j (by omega)⟩
        case measure => simp [intOf]; omega
      · have hne : ((f k : Int) == (h k : Int)) = false := by rw [beq_eq_false_iff_ne]; omega
        have hne2 : ((f k : Int) != (h k : Int)) = true := by rw [bne_iff_ne]; omega
        have HQ := Lib.hid hq
        clear hq
        go_wp2
        go_quiet (fail)
        go_wp2
        go_ret
        exact ⟨false, rfl, ⟨fun h => (by cases h), fun h => absurd (h k hlt) HQ.out⟩, Below.drewN_ hbl _⟩
    · obtain rfl : k = n := by omega
      go_wp2
      go_ret
      exact ⟨true, rfl, ⟨fun _ => HALL.out, fun _ => rfl⟩, hbl⟩
theorem rows_len (A : Option Addr) (n c : Nat) (B : Option Addr) (m d : Nat) (w : World) (hn : n ≠ m) :
    Calls Try.prog 22 #[.slice A n c, .slice B m d] w fun e w' => e = .returned (.bool false) ∧ w = w' := by
  have hne : ((n : Int) == (m : Int)) = false := by rw [beq_eq_false_iff_ne]; omega
  have hne2 : ((n : Int) != (m : Int)) = true := by rw [bne_iff_ne]; omega
  clear hn
  go_enter Try.func22, Try.ntmps22
  go_wp2
  go_ret
  exact ⟨rfl, rfl⟩
/-- Alike, as far as 64 bytes go. -/
def SameO : Option (Nat → Nat) → Option (Nat → Nat) → Prop
  | none, none => True
  | some f, some g => ∀ j, j < 64 → f j = g j
  | _, _ => False
theorem SameO.refl : ∀ s : Option (Nat → Nat), SameO s s
  | none => trivial
  | some _ => fun _ _ => rfl
theorem rows_o {R R' : Nat → Prop} {w : World} {u v : Value} {s t : Option (Nat → Nat)} (hu : SecO R w u s) (hv : SecO R' w v t) :
    Calls Try.prog 22 #[u, v] w fun e w' => ∃ q : Bool, e = .returned (.bool q) ∧ (q = true ↔ SameO s t) ∧ Below w.heap.size w w' := by
  cases s with
  | none =>
    obtain rfl : u = _ := hu
    cases t with
    | none =>
      obtain rfl : v = _ := hv
      refine (rows_same none 0 0 (fun _ => 0) none 0 (fun _ => 0) w Rd.zero Rd.zero (by omega)).mono ?_
      rintro e w' ⟨q, h1, h2, h3⟩
      exact ⟨q, h1, h2.trans ⟨fun _ => trivial, fun _ j hj => absurd hj (by omega)⟩, h3⟩
    | some g =>
      obtain ⟨g', o, c, rfl, _⟩ := Sec.rd hv
      refine (rows_len none 0 0 _ 64 c w (by omega)).mono ?_
      rintro e w' ⟨rfl, rfl⟩
      exact ⟨false, rfl, ⟨fun h => (by cases h), fun h => h.elim⟩, Below.refl _ _⟩
  | some f =>
    obtain ⟨g, o, c, rfl, _, _, hr, _⟩ := Sec.rd hu
    cases t with
    | none =>
      obtain rfl : v = _ := hv
      refine (rows_len _ 64 c none 0 0 w (by omega)).mono ?_
      rintro e w' ⟨rfl, rfl⟩
      exact ⟨false, rfl, ⟨fun h => (by cases h), fun h => h.elim⟩, Below.refl _ _⟩
    | some h =>
      obtain ⟨g', o', c', rfl, _, _, hr', _⟩ := Sec.rd hv
      exact rows_same _ 64 c f _ c' h w hr hr' (by omega)
theorem rows_yes {R R' : Nat → Prop} {w : World} {u v : Value} {s t : Option (Nat → Nat)} (hu : SecO R w u s) (hv : SecO R' w v t) (h : SameO s t) :
    Calls Try.prog 22 #[u, v] w fun e w' => e = .returned (.bool true) ∧ Below w.heap.size w w' :=
  (rows_o hu hv).mono fun _ _ ⟨q, h1, h2, h3⟩ => ⟨by rw [h1, h2.2 h], h3⟩
end Go.Proofs.Ytldbnlmimjamnaa
