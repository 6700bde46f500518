/- RootSlots. -/
import Derived.Test.YteeomidlnijfbaaPOf
namespace Go.Proofs.Yteeomidlnijfbaa
open Go.RowKit
set_option linter.unusedSimpArgs false
set_option linter.unusedVariables false

/-- The sectors behind the roots of the generations up to g. -/
def slots : Nat → Nat → Option (Nat → Nat)
  | 0 => fun _ => some fun _ => 0
  | g + 1 => setT (slots g) ((g + 1) % 2) (some (rootF (g + 1)))
theorem slots_at : ∀ g, slots (g + 1) ((g + 1) % 2) = some (rootF (g + 1)) := fun g => if_pos rfl
theorem slots_other (g : Nat) : slots (g + 2) ((g + 1) % 2) = some (rootF (g + 1)) := by
  show (if (g + 1) % 2 = (g + 2) % 2 then _ else slots (g + 1) ((g + 1) % 2)) = _
  rw [if_neg (by omega)]
  exact slots_at g
/-- A row that says nothing: zeros, but for one byte. -/
def rowC (c : Nat) : Nat → Nat := fun j => if j = 5 then c else 0
theorem say_rowC {c : Nat} (hc : c < 256) (i : Nat) : sayN i (some (rowC c)) = 0 := say_not (fun j _ => by unfold rowC; split <;> omega) (.inl (by unfold rowC; rw [if_neg (by omega)]; omega))
theorem row5 {w : World} {g c : Nat} (h : w.rowIs g 5 64 fun _ => .int .u8 0) : (w.setCell ⟨g, 5, none⟩ (.int .u8 (c : Nat))).rowIs g 5 64 fun j => .int .u8 (rowC c j : Nat) := (h.set 5 (.int .u8 (c : Nat))).congr fun j hj => by
  unfold rowC
  by_cases e : j = 5
  · rw [if_pos e, if_pos e]
  · rw [if_neg e, if_neg e]; rfl
theorem sec5 {u : World} {g c : Nat} (hc : c < 256) (h : u.rowIs g 5 64 fun j => .int .u8 (rowC c j : Nat)) : Sec Any u (.slice (some ⟨g, 0, none⟩) 64 64) (rowC c) :=
  ⟨g, 0, 64, rfl, Nat.le_refl _, trivial, fun j hj => by rw [Nat.zero_add]; exact h.cell hj, fun j _ => by unfold rowC; split <;> omega⟩
theorem pend_flush {n : Nat} {T : Nat → Option (Nat → Nat)} (i : Nat) (f : Nat → Nat) : (⟨n, T, [(i, f)], false, 0⟩ : DS).flush = (Sti n (setT T i (some f)), 0) := rfl
theorem two_max (h : Nat → Nat) {a : Nat} (ha : a < 2) : max (h 0) (h 1) = max (h a) (h (1 - a)) := by
  rcases (by omega : a = 0 ∨ a = 1) with rfl | rfl
  · rfl
  · exact Nat.max_comm _ _
/-- What counts where one of the two sectors says nothing. -/
theorem load_one {T : Nat → Option (Nat → Nat)} {a g : Nat} {o : Option (Nat → Nat)} (ha : a < 2) (hT : T (1 - a) = some (rootF g)) (hg : g < 4294967296) (hp : g % 2 = 1 - a) (ho : sayN a o = 0) : (Sti 2 (setT T a o)).load = (g, 0) := by
  rw [sti_load (by omega), two_max (fun i => sayN i (setT T a o i)) ha]
  have e1 : setT T a o a = o := if_pos rfl
  have e2 : setT T a o (1 - a) = some (rootF g) := (if_neg (by omega)).trans hT
  show (max (sayN a (setT T a o a)) (sayN (1 - a) (setT T a o (1 - a))), (0 : Int)) = _
  rw [e1, e2, ho, say_root hg, if_pos hp, Nat.max_eq_right (Nat.zero_le _)]
theorem setT_twice (T : Nat → Option (Nat → Nat)) (a : Nat) (x y : Option (Nat → Nat)) : setT (setT T a x) a y = setT T a y := by
  funext j
  unfold setT
  split <;> rfl
set_option maxRecDepth 100000 in
set_option maxHeartbeats 4000000 in
theorem root_slots (w : World) (n0 : Nat) (b1 : Bool) (c : Nat) (hn0 : n0 < 256) (hc : c < 256) : Calls Try.prog 8 #[.int .u8 (n0 : Nat), .bool b1, .int .u8 (c : Nat)] w fun e w' => e = .returned (.bool true) ∧ Below w.heap.size w w' := by
  obtain ⟨k, hk⟩ : ∃ k, 2 + n0 % 20 = k := ⟨_, rfl⟩
  have hkI : (2 : Int) + ((n0 : Nat) : Int) % 20 = (k : Int) := by omega
  have hk2 : 2 ≤ k := by omega
  have hk22 : k ≤ 21 := by omega
  have HNEW : Hid (∀ u, Below w.heap.size w u → Calls Try.prog 12 #[.int .i64 2] u fun e w' => ∃ gd, e = .returned (.tuple #[.pointer (some ⟨gd, 0, none⟩), .int .i64 0]) ∧ Held w w' gd (Sti 2 (slots 0)) fun _ => True) := fun u hu => held_sti 2 (by omega) (by omega) hu
  have HSV : Hid (∀ u gd (g : Nat), Held w u gd (Sti 2 (slots g)) (fun _ => True) → g < 30 → Calls Try.prog 25 #[.pointer (some ⟨gd, 0, none⟩), .int .u32 ((g + 1 : Nat) : Int)] u fun e w' => e = .returned (.int .i64 0) ∧ Held w w' gd (Sti 2 (slots (g + 1))) fun _ => True) := fun u gd g h hg => by
    have := h.save (Nat.zero_le _) (g + 1) (by omega)
    rw [sti_save (by omega) (by omega)] at this
    exact this
  have key : ∃ A W : Nat, A < 2 ∧ W < 4294967296 ∧ slots k (1 - A) = some (rootF W) ∧ W % 2 = 1 - A ∧ ((b1 = false ∧ (A : Int) = (k : Int) % 2 ∧ (W : Int) = (k : Int) - 1) ∨ (b1 = true ∧ (A : Int) = 1 - (k : Int) % 2 ∧ W = k)) := by
    obtain ⟨j, rfl⟩ : ∃ j, k = j + 2 := ⟨k - 2, by omega⟩
    cases b1 with
    | false => exact ⟨(j + 2) % 2, j + 1, by omega, by omega, by rw [show 1 - (j + 2) % 2 = (j + 1) % 2 from by omega]; exact slots_other j, by omega, .inl ⟨rfl, by omega, by omega⟩⟩
    | true => exact ⟨1 - (j + 2) % 2, j + 2, by omega, by omega, by rw [show 1 - (1 - (j + 2) % 2) = (j + 2) % 2 from by omega]; exact slots_at (j + 1), by omega, .inr ⟨rfl, by omega, rfl⟩⟩
  obtain ⟨A, W, hA, hW, hT, hp, hcase⟩ := key
  have HWR : Hid (∀ u gd T (i : Int) (g : Nat), Held w u gd (Sti 2 T) (fun u => u.rowIs g 5 64 fun j => .int .u8 (rowC c j : Nat)) → i = (A : Nat) → Calls Try.prog 22 #[.pointer (some ⟨gd, 0, none⟩), .int .i64 i, .slice (some ⟨g, 0, none⟩) 64 64] u fun e w' => e = .returned (.int .i64 0) ∧ Held w w' gd ⟨2, T, [(A, rowC c)], false, 0⟩ fun u => u.rowIs g 5 64 fun j => .int .u8 (rowC c j : Nat)) := fun u gd T i g h hi => by
    subst hi
    have := h.write (Nat.zero_le _) (A : Nat) (a := some ⟨g, 0, none⟩) (c := 64) (f := rowC c) fun u hu => sec5 hc hu
    rw [sti_write hA] at this
    exact this
  have HUP : Hid (∀ u gd T g, Held w u gd ⟨2, T, [(A, rowC c)], false, 0⟩ (fun u => u.rowIs g 5 64 fun j => .int .u8 (rowC c j : Nat)) → Calls Try.prog 18 #[.pointer (some ⟨gd, 0, none⟩), .slice (some ⟨u.heap.size, 0, none⟩) 1 1] (u.alloc (.cells #[.int .u8 2] 5)) fun e w' => e = .returned (.tuple #[]) ∧ Held w w' gd (Sti 2 (setT T A none)) (fun u => u.rowIs g 5 64 fun j => .int .u8 (rowC c j : Nat))) := fun u gd T g h => by
    have hr : Rd .u8 (u.alloc (.cells #[.int .u8 2] 5)) (some ⟨u.heap.size, 0, none⟩) 1 fun _ => 2 := fun j hj => ⟨_, rfl, by
      obtain rfl : j = 0 := by omega
      exact (row_one (K := .u8) (t := 5) u 2).cell (by omega)⟩
    have := (h.below (below_new u (.cells #[.int .u8 2] 5))).up (by show 1 ≤ _; omega) (some ⟨u.heap.size, 0, none⟩) 1 1 (fun _ => 2) hr (fun _ _ => by omega) (by omega) (by omega)
    exact this
  have HL1 : Hid (∀ u gd g (WI : Int), (W : Int) = WI → Held w u gd (Sti 2 (setT (slots k) A none)) (fun u => u.rowIs g 5 64 fun j => .int .u8 (rowC c j : Nat)) → Calls Try.prog 31 #[.pointer (some ⟨gd, 0, none⟩)] u fun e w' => e = .returned (.tuple #[.int .u32 WI, .int .i64 0]) ∧ Held w w' gd (Sti 2 (setT (slots k) A none)) (fun u => u.rowIs g 5 64 fun j => .int .u8 (rowC c j : Nat))) := fun u gd g WI hWI h => by
    subst hWI
    have := h.load
    rw [load_one hA hT hW hp rfl] at this
    exact this
  have HFL : Hid (∀ u gd g, Held w u gd ⟨2, setT (slots k) A none, [(A, rowC c)], false, 0⟩ (fun u => u.rowIs g 5 64 fun j => .int .u8 (rowC c j : Nat)) → Calls Try.prog 35 #[.pointer (some ⟨gd, 0, none⟩)] u fun e w' => e = .returned (.int .i64 0) ∧ Held w w' gd (Sti 2 (setT (slots k) A (some (rowC c)))) (fun u => u.rowIs g 5 64 fun j => .int .u8 (rowC c j : Nat))) := fun u gd g h => by
    have := h.flush
    rw [pend_flush, setT_twice] at this
    exact this
  have HL2 : Hid (∀ u gd g (WI : Int), (W : Int) = WI → Held w u gd (Sti 2 (setT (slots k) A (some (rowC c)))) (fun u => u.rowIs g 5 64 fun j => .int .u8 (rowC c j : Nat)) → Calls Try.prog 31 #[.pointer (some ⟨gd, 0, none⟩)] u fun e w' => e = .returned (.tuple #[.int .u32 WI, .int .i64 0]) ∧ Below w.heap.size w w') := fun u gd g WI hWI h => by
    subst hWI
    have := h.load
    rw [load_one hA hT hW hp (say_rowC hc _)] at this
    exact this.mono fun e w' h => ⟨h.1, h.2.bel⟩
  have HM : Hid (∀ u w5 gd, Held w u gd (Sti 2 (slots k)) (fun _ => True) → w5.rowIs u.heap.size 5 64 (fun _ => .int .u8 0) → Below u.heap.size u w5 → w5.heap.size = u.heap.size + 1 → Held w (w5.setCell ⟨u.heap.size, 5, none⟩ (.int .u8 (c : Nat))) gd (Sti 2 (slots k)) (fun v => v.rowIs u.heap.size 5 64 fun j => .int .u8 (rowC c j : Nat))) := fun u w5 gd h hr hb hs => by
    have h5 := row5 (c := c) hr
    refine (h.more (hb.setCell (Nat.le_refl _) _) fun v hv _ => ?_).imp fun _ h => h.2
    exact h5.of_block (hv u.heap.size (Nat.le_refl _) (by simp [World.setCell, hs]))
  clear hk hT hp hW
  have HA := Lib.hid hA
  clear hA
  go_enter Try.func8, Try.ntmps8
  go_wp2_with (first
    | (go_at_call 23; refine (awake8 _).mono ?_; rintro e w1 ⟨rfl, hb1⟩; have HB1 := Lib.hid hb1; clear hb1)
    | (go_at_call 12; refine (HNEW.out _ HB1.out).mono ?_; rintro e w2 ⟨gd, rfl, h2⟩; have H2 := Lib.hid h2; clear h2))
  go_loopw [10] (fun x10 wr => ∃ g : Nat, g ≤ k ∧ x10 = .int .u32 ((g + 1 : Nat) : Int) ∧ Held w wr gd (Sti 2 (slots g)) fun _ => True) (fun x10 _ => k + 1 - (intOf x10).toNat)
  case atStart => exact ⟨0, by omega, rfl, H2.out⟩
  case round =>
    obtain ⟨g, hg, rfl, hh⟩ := hrel
    have HH := Lib.hid hh
    clear hh
    by_cases hlt : g < k
    · have j1 : ((g + 1 : Nat) : Int) ≤ (k : Int) := by omega
      have HLT := Lib.hid hlt
      obtain ⟨x, hx⟩ : ∃ x : Nat, g + 1 = x := ⟨_, rfl⟩
      have hS := HSV.out _ _ g HH.out (by omega)
      rw [hx] at j1 hS ⊢
      have HX := Lib.hid hx
      have HS := Lib.hid hS
      have hx22 : (x : Int) ≤ 21 := by omega
      clear hS hx hlt hg
      go_wp2_with (go_at_call 25; refine HS.out.mono ?_; rintro e w3 ⟨rfl, h3⟩; have H3 := Lib.hid h3; clear h3)
      refine ⟨⟨x, by have := HX.out; have := HLT.out; omega, by rw [Int.natCast_add]; rfl, ?_⟩, by simp [intOf]; omega⟩
      have := HX.out
      subst this
      exact H3.out
    · obtain rfl : g = k := by omega
      have j1 : ¬ ((g + 1 : Nat) : Int) ≤ (g : Int) := by omega
      obtain ⟨x, hx⟩ : ∃ x : Nat, g + 1 = x := ⟨_, rfl⟩
      rw [hx] at j1 ⊢
      clear hx hlt hg
      rcases hcase with ⟨rfl, hAI, hWI⟩ | ⟨rfl, hAI, hWI⟩
      · have HAI := Lib.hid hAI.symm
        have HWI := Lib.hid hWI
        have h02 : 0 ≤ (g : Int) % 2 ∧ (g : Int) % 2 < 2 := by omega
        have hgb : (2 : Int) ≤ (g : Int) := by omega
        have hgc : (g : Int) ≤ 21 := by omega
        clear hAI hWI hk2 hk22
        go_wp2_with (first
          | (at_make; refine wpList_make_rowIs rfl _ _ 35 rfl 5 (.int .u8 0) 1 Try.underlying35 u8_info rfl .i64 .i64 _ _ 64 rfl rfl rfl rfl (by omega) (by omega) ?_; intro w5 hrow5 hb5 hs5; have HM5 := Lib.hid (HM.out _ _ _ HH.out hrow5 hb5 hs5); have c5 : w5.cell? ⟨wr.heap.size, 5, none⟩ = some (.int .u8 0) := hrow5.cell (i := 5) (by omega); have z5 := hrow5.frozen 5; clear hrow5 hb5 hs5)
          | (have _t := H8; clear _t; go_at_call 22; refine (HWR.out _ _ _ _ _ H8.out HAI.out).mono ?_; rintro e w9 ⟨rfl, h9⟩; have H9 := Lib.hid h9; clear h9)
          | (go_at_call 22; refine (HWR.out _ _ _ _ _ HM5.out HAI.out).mono ?_; rintro e w6 ⟨rfl, h6⟩; have H6 := Lib.hid h6; clear h6 c5 z5)
          | (go_at_call 18; refine (HUP.out _ _ _ _ H6.out).mono ?_; rintro e w7 ⟨rfl, h7⟩; have H7 := Lib.hid h7; clear h7)
          | (have _t := H10; clear _t; go_at_call 31; refine (HL2.out _ _ _ _ HWI.out H10.out).mono ?_; rintro e w11 ⟨rfl, h11⟩; have H11 := Lib.hid h11; clear h11)
          | (go_at_call 31; refine (HL1.out _ _ _ _ HWI.out H7.out).mono ?_; rintro e w8 ⟨rfl, h8⟩; have H8 := Lib.hid h8; clear h8)
          | (go_at_call 35; refine (HFL.out _ _ _ H9.out).mono ?_; rintro e w10 ⟨rfl, h10⟩; have H10 := Lib.hid h10; clear h10))
        go_ret
        exact ⟨rfl, H11.out⟩
      · have HAI := Lib.hid hAI.symm
        have HWI := Lib.hid (show (W : Int) = (g : Int) from by omega)
        have h02 : 0 ≤ (g : Int) % 2 ∧ (g : Int) % 2 < 2 := by omega
        have hgb : (2 : Int) ≤ (g : Int) := by omega
        have hgc : (g : Int) ≤ 21 := by omega
        clear hAI hWI hk2 hk22
        go_wp2_with (first
          | (at_make; refine wpList_make_rowIs rfl _ _ 35 rfl 5 (.int .u8 0) 1 Try.underlying35 u8_info rfl .i64 .i64 _ _ 64 rfl rfl rfl rfl (by omega) (by omega) ?_; intro w5 hrow5 hb5 hs5; have HM5 := Lib.hid (HM.out _ _ _ HH.out hrow5 hb5 hs5); have c5 : w5.cell? ⟨wr.heap.size, 5, none⟩ = some (.int .u8 0) := hrow5.cell (i := 5) (by omega); have z5 := hrow5.frozen 5; clear hrow5 hb5 hs5)
          | (have _t := H8; clear _t; go_at_call 22; refine (HWR.out _ _ _ _ _ H8.out HAI.out).mono ?_; rintro e w9 ⟨rfl, h9⟩; have H9 := Lib.hid h9; clear h9)
          | (go_at_call 22; refine (HWR.out _ _ _ _ _ HM5.out HAI.out).mono ?_; rintro e w6 ⟨rfl, h6⟩; have H6 := Lib.hid h6; clear h6 c5 z5)
          | (go_at_call 18; refine (HUP.out _ _ _ _ H6.out).mono ?_; rintro e w7 ⟨rfl, h7⟩; have H7 := Lib.hid h7; clear h7)
          | (have _t := H10; clear _t; go_at_call 31; refine (HL2.out _ _ _ _ HWI.out H10.out).mono ?_; rintro e w11 ⟨rfl, h11⟩; have H11 := Lib.hid h11; clear h11)
          | (go_at_call 31; refine (HL1.out _ _ _ _ HWI.out H7.out).mono ?_; rintro e w8 ⟨rfl, h8⟩; have H8 := Lib.hid h8; clear h8)
          | (go_at_call 35; refine (HFL.out _ _ _ H9.out).mono ?_; rintro e w10 ⟨rfl, h10⟩; have H10 := Lib.hid h10; clear h10))
        go_ret
        exact ⟨rfl, H11.out⟩
end Go.Proofs.Yteeomidlnijfbaa
