/- The document's awake. -/
import Derived.Test.YtmcbmbcfgefocaaPGu
import Derived.Test.YtmcbmbcfgefocaaPDa
namespace Go.Proofs.Ytmcbmbcfgefocaa
open Go.RowKit Go.Shelf
set_option linter.unusedSimpArgs false
set_option linter.unusedVariables false

theorem rec_block {w : World} {Z : Nat → Prop} {b n : Nat} {f : Nat → Nat} {cs : Array Value} {t : TypeId} {m : Nat × Nat} (hz : Z b) (hb : w.heap[b]? = some (.cells cs t m)) (hc : ∀ j, j < n → cs[j]? = some (.int .u8 (f j : Nat))) (hf : ∀ j, j < n → f j < 256) : ∀ V, Kept Z w V → Byt V (.slice (some ⟨b, 0, none⟩) n n) n f := fun V hV => by
  have hb2 : V.heap[b]? = some (.cells cs t m) := (hV.1 b hz).trans hb
  refine ⟨_, n, rfl, Nat.le_refl _, fun j hj => ⟨_, rfl, ?_⟩, hf⟩
  rw [add_mk, Nat.zero_add, cell_of_row _ _ j cs _ _ hb2]
  exact hc j hj
abbrev lit2L (w : World) (x y : Nat) : World := ((w.alloc (.cells #[.int .u8 (x : Nat)] 5)).alloc (.cells #[.int .u8 (y : Nat)] 5)).alloc (.cells #[.slice (some ⟨w.heap.size, 0, none⟩) 1 1, .slice (some ⟨w.heap.size + 1, 0, none⟩) 1 1] 35)
abbrev f2 (x y : Nat) : Nat → Nat := fun i => if i = 0 then x else y
theorem lit2_below (w : World) (x y : Nat) : Below w.heap.size w (lit2L w x y) := ((below_new _ _).trans ((below_new _ _).mono (by simp))).trans ((below_new _ _).mono (by simp; omega))
theorem lit2_size (w : World) (x y : Nat) : (lit2L w x y).heap.size = w.heap.size + 3 := by simp
theorem lit2_rows (w : World) {x y : Nat} (hx : x < 256) (hy : y < 256) {u : World} (hu : ∀ k, w.heap.size ≤ k → k < w.heap.size + 3 → u.heap[k]? = (lit2L w x y).heap[k]?) : RowsIn u (some ⟨w.heap.size + 1 + 1, 0, none⟩) 2 (oneR w.heap.size (f2 x y)) := by
  have b1 := ((Boxed.new w 5 (.int .u8 (x : Nat))).alloc (.cells #[.int .u8 (y : Nat)] 5)).alloc (.cells #[.slice (some ⟨w.heap.size, 0, none⟩) 1 1, .slice (some ⟨w.heap.size + 1, 0, none⟩) 1 1] 35)
  have b2 := (Boxed.new (w.alloc (.cells #[.int .u8 (x : Nat)] 5)) 5 (.int .u8 (y : Nat))).alloc (.cells #[.slice (some ⟨w.heap.size, 0, none⟩) 1 1, .slice (some ⟨w.heap.size + 1, 0, none⟩) 1 1] 35)
  have b3 := heap_alloc_new ((w.alloc (.cells #[.int .u8 (x : Nat)] 5)).alloc (.cells #[.int .u8 (y : Nat)] 5)) (.cells #[.slice (some ⟨w.heap.size, 0, none⟩) 1 1, .slice (some ⟨w.heap.size + 1, 0, none⟩) 1 1] 35)
  rw [World.size_alloc] at b2
  rw [World.size_alloc, World.size_alloc] at b3
  refine ones_in (fun i => by show (if i = 0 then x else y) < 256; split <;> omega) (fun i hi => ?_) ((hu (w.heap.size + 1 + 1) (by omega) (by omega)).trans b3) fun i hi => ?_
  · rcases (by omega : i = 0 ∨ i = 1) with rfl | rfl
    · exact (hu w.heap.size (Nat.le_refl _) (by omega)).trans b1
    · exact (hu (w.heap.size + 1) (by omega) (by omega)).trans b2
  · rcases (by omega : i = 0 ∨ i = 1) with rfl | rfl <;> rfl
theorem same_nil {rs : List Rec} (h : SameL [] rs) : rs = [] := by
  have := h.len
  exact List.eq_nil_of_length_eq_zero (by simpa using this.symm)
set_option maxRecDepth 100000 in
set_option maxHeartbeats 4000000 in
theorem awake9 (w : World) : Calls Try.prog 7 #[] w fun e w' => e = .returned (.bool true) ∧ Below w.heap.size w w' := by
  have HNEW := Lib.hid (held_disk (w := w) (N := 18) (by omega) (by omega))
  have HNO : Hid (∀ u gd, HeldD w u gd (DS.new 18) (fun _ => False) → Calls Try.prog 8 #[.int .i64 17] u fun e w' => ∃ go, e = .returned (.tuple #[.pointer (some ⟨go, 0, none⟩), .int .i64 0]) ∧ Dg w w' gd 18 0 0 0 [] (fun k => u.heap.size ≤ k ∧ k < w'.heap.size) ∧ ∃ F, DskAt F w' go (DS.new 17) ∧ ∀ k, F k → u.heap.size ≤ k ∧ k < w'.heap.size) := Lib.hid fun u gd h => by
    refine (held_disk (w := u) (N := 17) (by omega) (by omega)).mono ?_
    rintro e w' ⟨go, rfl, ho⟩
    have hb := ho.bel
    refine ⟨go, rfl, dg_new (by omega) (by omega) (h.ours (.of_below hb) fun k hk => .inr hk), ?_⟩
    obtain ⟨F, a1, a2, a3, a4⟩ := ho
    exact ⟨F, a1, fun k hk => ⟨(a3 k hk).1, a1.lt k hk⟩⟩
  have HOP : Hid (∀ u gd go (a b : Nat), Dg w u gd 18 0 0 0 [] (fun k => a ≤ k ∧ k < b) → (∃ F, DskAt F u go (DS.new 17) ∧ ∀ k, F k → a ≤ k ∧ k < b) → Calls Try.prog 9 #[.pointer (some ⟨gd, 0, none⟩)] u fun e w' => ∃ gl, e = .returned (.tuple #[.pointer (some ⟨gl, 0, none⟩), .int .i64 0]) ∧ Lg w w' gl gd 18 0 0 0 [] (fun _ => False) ∧ ∃ F, DskAt F w' go (DS.new 17)) := Lib.hid fun u gd go a b h ho => by
    refine (h.open_ (by omega) (by omega)).mono ?_
    rintro e w' ⟨gl, rs2, rfl, hs, hl, hk⟩
    obtain rfl := same_nil hs
    obtain ⟨F, o1, o2⟩ := ho
    exact ⟨gl, rfl, hl.less fun k hk => hk.elim, F, o1.keep (fun k hk' => hk.1 k (o2 k hk')) hk.2⟩
  have HOO : Hid (∀ u gl gd go, Lg w u gl gd 18 0 0 0 [] (fun _ => False) → (∃ F, DskAt F u go (DS.new 17)) → Calls Try.prog 9 #[.pointer (some ⟨go, 0, none⟩)] u fun e w' => e = .returned (.tuple #[.pointer none, .int .i64 1]) ∧ Lg w w' gl gd 18 0 0 0 [] (fun _ => False)) := Lib.hid fun u gl gd go h ho => by
    obtain ⟨F, hF⟩ := ho
    refine (open_no hF (by decide)).mono ?_
    rintro e w' ⟨rfl, hb⟩
    exact ⟨rfl, h.below hb⟩
  have HA2 : Hid (∀ u gl gd, Lg w u gl gd 18 0 0 0 [] (fun _ => False) → Calls Try.prog 19 #[.pointer (some ⟨gl, 0, none⟩), .slice (some ⟨u.heap.size, 0, none⟩) 2 2] (u.alloc (.cells #[.int .u8 1, .int .u8 2] 5)) fun e w' => e = .returned (.int .i64 0) ∧ Lg w w' gl gd 18 1 0 1 [(2, f2 1 2)] (fun _ => False)) := Lib.hid fun u gl gd h => by
    have hb := below_new u (.cells #[.int .u8 1, .int .u8 2] 5)
    have h2 := h.new (Z' := fun k => k = u.heap.size) hb fun k hk => .inr (by subst hk; simp)
    refine (h2.append (by omega) (by omega) (by omega) (n := 2) (f := f2 1 2) (c := 2) (rec_block (n := 2) (f := f2 1 2) rfl (heap_alloc_new u _) (fun j hj => by rcases (by omega : j = 0 ∨ j = 1) with rfl | rfl <;> rfl) fun j _ => by show (if j = 0 then 1 else 2) < 256; split <;> omega) (by omega) (by omega)).mono ?_
    rintro e w' ⟨_, ⟨_, rfl, hl⟩ | ⟨hno, _⟩⟩
    · exact ⟨rfl, hl.less fun k hk => hk.elim⟩
    · exact absurd ⟨by decide, by decide⟩ hno
  have HCO : Hid (∀ u gl gd, Lg w u gl gd 18 1 0 1 [(2, f2 1 2)] (fun _ => False) → Calls Try.prog 12 #[.pointer (some ⟨gl, 0, none⟩), .slice (some ⟨u.heap.size + 1 + 1, 0, none⟩) 2 2] (lit2L u 3 4) fun e w' => e = .returned (.int .i64 0) ∧ Lg w w' gl gd 18 3 1 2 (recsOf (oneR 0 (f2 3 4)) 2) (fun _ => False)) := Lib.hid fun u gl gd h => by
    have h2 := h.new (Z' := fun k => u.heap.size ≤ k ∧ k < u.heap.size + 3) (lit2_below u 3 4) fun k hk => .inr (by rw [lit2_size]; exact hk)
    have hs := sum_ones u.heap.size (f2 3 4) 2
    refine (h2.compact (by omega) (by omega) (by omega) (n := 2) (R := oneR u.heap.size (f2 3 4)) (c := 2) (fun V hV _ => lit2_rows u (by decide) (by decide) fun k k1 k2 => hV.1 k ⟨k1, k2⟩) (by omega)).mono ?_
    rintro e w' ⟨_, ⟨_, rfl, hl⟩ | ⟨hno, _⟩⟩
    · rw [hs] at hl
      exact ⟨rfl, hl.less fun k hk => hk.elim⟩
    · exact absurd ⟨fun i _ => by show needF 1 ≠ 0; rw [need_one]; decide, by decide, by rw [hs]; decide, by decide⟩ hno
  have HA3 : Hid (∀ u u2 gl gd, Lg w u gl gd 18 3 1 2 (recsOf (oneR 0 (f2 3 4)) 2) (fun _ => False) → u2.rowIs u.heap.size 5 392 (fun _ => .int .u8 0) → Below u.heap.size u u2 → u2.heap.size = u.heap.size + 1 → Calls Try.prog 19 #[.pointer (some ⟨gl, 0, none⟩), .slice (some ⟨u.heap.size, 0, none⟩) 392 392] u2 fun e w' => e = .returned (.int .i64 3) ∧ Lg w w' gl gd 18 3 1 2 (recsOf (oneR 0 (f2 3 4)) 2) (fun _ => False)) := Lib.hid fun u u2 gl gd h hr hb hs => by
    have h2 := h.new (Z' := fun k => k = u.heap.size) hb fun k hk => .inr (by subst hk; omega)
    refine (h2.append (by omega) (by omega) (by omega) (n := 392) (f := fun _ => 0) (c := 392) (fun V hV => ?_) (by omega) (by omega)).mono ?_
    · have hr2 := hr.of_block (hV.1 u.heap.size rfl)
      exact ⟨_, 392, rfl, Nat.le_refl _, fun j hj => ⟨_, rfl, by rw [add_mk, Nat.zero_add]; exact hr2.cell hj⟩, fun j hj => by show (0 : Nat) < 256; decide⟩
    · rintro e w' ⟨_, ⟨hyes, _⟩ | ⟨_, rfl, hl⟩⟩
      · exact absurd hyes.2 (by decide)
      · exact ⟨rfl, hl.less fun k hk => hk.elim⟩
  have HRC : Hid (∀ u gl gd, Lg w u gl gd 18 3 1 2 (recsOf (oneR 0 (f2 3 4)) 2) (fun _ => False) → Calls Try.prog 17 #[.pointer (some ⟨gl, 0, none⟩)] u fun e w' => ∃ A c, e = .returned (.slice A 2 c) ∧ RowsBy w' (.slice A 2 c) (recsOf (oneR 0 (f2 3 4)) 2) ∧ Lg w w' gl gd 18 3 1 2 (recsOf (oneR 0 (f2 3 4)) 2) (fun _ => False)) := Lib.hid fun u gl gd h => by
    refine h.records.mono ?_
    rintro e w' ⟨⟨v', rfl, hl⟩, hb⟩
    obtain ⟨A, c, rfl⟩ := hl.form
    exact ⟨A, c, rfl, hl.by_, h.below hb⟩
  have HAL : Hid (∀ u gl gd A c, RowsBy u (.slice A 2 c) (recsOf (oneR 0 (f2 3 4)) 2) → Lg w u gl gd 18 3 1 2 (recsOf (oneR 0 (f2 3 4)) 2) (fun _ => False) → Calls Try.prog 16 #[.slice A 2 c, .slice (some ⟨u.heap.size + 1 + 1, 0, none⟩) 2 2] (lit2L u 3 4) fun e w' => e = .returned (.bool true) ∧ Lg w w' gl gd 18 3 1 2 (recsOf (oneR 0 (f2 3 4)) 2) (fun _ => False)) := Lib.hid fun u gl gd A c h hl => by
    refine (alikeL_yes (rs' := recsOf (oneR u.heap.size (f2 3 4)) 2) (h.below (lit2_below u 3 4)) (ones_recs u.heap.size (f2 3 4) 2 (lit2_rows u (by decide) (by decide) fun _ _ _ => rfl)) (SameL.refl _) (by decide)).mono ?_
    rintro e w' ⟨rfl, hb⟩
    exact ⟨rfl, (hl.below (lit2_below u 3 4)).below hb⟩
  have HFR : Hid (∀ u gl gd, Lg w u gl gd 18 3 1 2 (recsOf (oneR 0 (f2 3 4)) 2) (fun _ => False) → Calls Try.prog 15 #[.pointer (some ⟨gl, 0, none⟩)] u fun e w' => e = .returned (.int .i64 6) ∧ Lg w w' gl gd 18 3 1 2 (recsOf (oneR 0 (f2 3 4)) 2) (fun _ => False)) := Lib.hid fun u gl gd h => h.free.mono fun e w' hp => ⟨hp.1, h.below hp.2⟩
  have HUS : Hid (∀ u gl gd, Lg w u gl gd 18 3 1 2 (recsOf (oneR 0 (f2 3 4)) 2) (fun _ => False) → Calls Try.prog 14 #[.pointer (some ⟨gl, 0, none⟩)] u fun e w' => e = .returned (.int .i64 2) ∧ Lg w w' gl gd 18 3 1 2 (recsOf (oneR 0 (f2 3 4)) 2) (fun _ => False)) := Lib.hid fun u gl gd h => (h.used_ (by omega) (by omega)).mono fun e w' hp => ⟨hp.1, h.below hp.2⟩
  have HGN : Hid (∀ u gl gd, Lg w u gl gd 18 3 1 2 (recsOf (oneR 0 (f2 3 4)) 2) (fun _ => False) → Calls Try.prog 13 #[.pointer (some ⟨gl, 0, none⟩)] u fun e w' => e = .returned (.int .u32 1) ∧ Below w.heap.size w w') := Lib.hid fun u gl gd h => h.gen.mono fun e w' hp => ⟨hp.1, by rw [← hp.2]; exact h.bel⟩
  go_enter Try.func7, Try.ntmps7
  go_wp2_with (first
    | (have _t := H1; clear _t; go_at_call 8; refine (HNO.out _ _ H1.out).mono ?_; rintro e w2 ⟨go, rfl, h2, o2⟩; have H2 := Lib.hid h2; have O2 := Lib.hid o2; clear h2 o2)
    | (go_at_call 8; refine HNEW.out.mono ?_; rintro e w1 ⟨gd, rfl, h1⟩; have H1 := Lib.hid h1; clear h1)
    | (have _t := H3; clear _t; go_at_call 9; refine (HOO.out _ _ _ _ H3.out O3.out).mono ?_; rintro e w4 ⟨rfl, h4⟩; have H4 := Lib.hid h4; clear h4)
    | (go_at_call 9; refine (HOP.out _ _ _ _ _ H2.out O2.out).mono ?_; rintro e w3 ⟨gl, rfl, h3, o3⟩; have H3 := Lib.hid h3; have O3 := Lib.hid o3; clear h3 o3)
    | (have _t := M7; clear _t; go_at_call 19; refine (HA3.out _ _ _ _ H6.out M7.out.1 M7.out.2.1 M7.out.2.2).mono ?_; rintro e w8 ⟨rfl, h8⟩; have H8 := Lib.hid h8; clear h8)
    | (go_at_call 19; refine (HA2.out _ _ _ H4.out).mono ?_; rintro e w5 ⟨rfl, h5⟩; have H5 := Lib.hid h5; clear h5)
    | (go_at_call 12; refine (HCO.out _ _ _ H5.out).mono ?_; rintro e w6 ⟨rfl, h6⟩; have H6 := Lib.hid h6; clear h6)
    | (at_make; refine wpList_make_rowIs rfl _ _ 35 rfl 5 (.int .u8 0) 1 Try.underlying35 u8_info rfl .i64 .i64 _ _ 392 rfl rfl rfl rfl (by omega) (by omega) ?_; intro w7 hr7 hb7 hs7; have M7 := Lib.hid (And.intro hr7 (And.intro hb7 hs7)); clear hr7 hb7 hs7)
    | (go_at_call 17; refine (HRC.out _ _ _ H8.out).mono ?_; rintro e w9 ⟨A9, c9, rfl, r9, h9⟩; have H9 := Lib.hid h9; have R9 := Lib.hid r9; clear h9 r9)
    | (go_at_call 16; refine (HAL.out _ _ _ _ _ R9.out H9.out).mono ?_; rintro e w10 ⟨rfl, h10⟩; have H10 := Lib.hid h10; clear h10)
    | (go_at_call 15; refine (HFR.out _ _ _ H10.out).mono ?_; rintro e w11 ⟨rfl, h11⟩; have H11 := Lib.hid h11; clear h11)
    | (go_at_call 14; refine (HUS.out _ _ _ H11.out).mono ?_; rintro e w12 ⟨rfl, h12⟩; have H12 := Lib.hid h12; clear h12)
    | (go_at_call 13; refine (HGN.out _ _ _ H12.out).mono ?_; rintro e w13 ⟨rfl, h13⟩; have H13 := Lib.hid h13; clear h13))
  go_ret
  exact ⟨rfl, H13.out⟩
end Go.Proofs.Ytmcbmbcfgefocaa

/- What came in reads as: rows of bytes, lists of them. -/
namespace Go.Proofs.Ytmcbmbcfgefocaa
open Go.ChangeShapes Go.WideShapes Go.ChangeAt Go.RowKit
set_option linter.unusedSimpArgs false
set_option linter.unusedVariables false

/-- A row of bytes, as it came in. -/
structure RowE where
  A : Option Addr
  n : Nat
  c : Nat
  f : Nat → Nat
abbrev RowE.val (r : RowE) : Value := .slice r.A r.n r.c
def RowE.good (r : RowE) (w : World) : Prop := Byt w (.slice r.A r.n r.c) r.n r.f ∧ r.n ≤ 9223372036854775807
/-- A list of rows. -/
def RowsE (w : World) (A : Option Addr) (n : Nat) (X : Nat → RowE) : Prop := ∀ i, i < n → ∃ ad, A = some ad ∧ w.cell? (ad.add i) = some (X i).val ∧ (X i).good w
section
variable {H : Type} {enc : TypeId × Value → H} {W : World} {base m : Nat} {held : Bool} {c : Value} {y : DataW H × List MemPlace}
set_option maxRecDepth 100000 in
theorem row_trod (h : DataW.trod enc Try.prog W base (fun _ => true) held m 35 [c] = some y) : ∃ r : RowE, c = r.val ∧ r.good W := by
  have hrow : ∃ (s : Option Addr) (l' c' : Nat) (zs : List Int), c = .slice s l' c' ∧ ((s = none ∧ l' = 0 ∧ c' = 0 ∧ zs = []) ∨ ∃ x, s = some x ∧ l' ≤ c' ∧ c' ≤ maxLen ∧ zs.length = c' ∧ (∀ i, i < zs.length → W.cell? (x.add i) = some (.int .u8 (zs.getD i 0))) ∧ ∀ n ∈ zs, (Lit.int .u8 n).wf = true) := by
    rcases open_ints Try.underlying35 Try.underlying5 (by kernel_rfl) h with ⟨hcs, _⟩ | ⟨x, l', c', zs, hcs, _, hl', hm', hz', _, hcell, hwz⟩
    · simp at hcs
      exact ⟨none, 0, 0, [], hcs, .inl ⟨rfl, rfl, rfl, rfl⟩⟩
    · simp at hcs
      exact ⟨some x, l', c', zs, hcs, .inr ⟨x, rfl, hl', hm', by simpa using hz', hcell, hwz⟩⟩
  obtain ⟨a, l', c', zs, rfl, hr⟩ := hrow
  obtain ⟨r1, r2, f, r3, r4⟩ := bytes_of hr
  exact ⟨⟨a, l', c', f⟩, rfl, ⟨a, c', rfl, r1, r3, r4⟩, r2⟩
set_option maxRecDepth 100000 in
theorem rows_trod (h : DataW.trod enc Try.prog W base (fun _ => true) held m 33 [c] = some y) : ∃ (A : Option Addr) (n k : Nat) (X : Nat → RowE), c = .slice A n k ∧ n ≤ 9223372036854775807 ∧ RowsE W A n X := by
  rcases DataW.trod_slice Try.underlying33 h with ⟨hcs, _⟩ | ⟨a, l, k, elems, rest, n, _, hcs, _, hb, hl, hm, hlen, hel, _⟩
  · simp at hcs
    exact ⟨none, 0, 0, fun _ => ⟨none, 0, 0, fun _ => 0⟩, hcs, by omega, fun i hi => absurd hi (by omega)⟩
  · simp at hcs
    have each : ∀ i, ∃ t : RowE, i < l → W.cell? (a.add i) = some t.val ∧ t.good W := fun i => by
      by_cases hi : i < l
      · have he := hel i hi
        obtain ⟨y, hy⟩ : ∃ y, elems[i]? = some y := ⟨elems[i], List.getElem?_eq_getElem (by omega)⟩
        rw [hy, Option.bind_eq_some_iff, cellsRow] at he
        obtain ⟨cs, hc, ht⟩ := he
        obtain ⟨_, hcl, hcc⟩ := World.cells?_some hc
        obtain ⟨c0, rfl⟩ : ∃ c0, cs = [c0] := by
          match cs, hcl with
          | [c0], _ => exact ⟨c0, rfl⟩
        have q0 := hcc 0 (by omega)
        obtain ⟨r, rfl, hr⟩ := row_trod ht
        have e00 : (a.add (i * 1)).add 0 = a.add i := by rw [Nat.mul_one]; rfl
        rw [e00] at q0
        exact ⟨r, fun _ => ⟨q0, hr⟩⟩
      · exact ⟨⟨none, 0, 0, fun _ => 0⟩, fun h => absurd h hi⟩
    obtain ⟨g, hg⟩ := Classical.axiomOfChoice each
    exact ⟨some a, l, k, g, hcs, by simp only [maxLen] at hm; omega, fun i hi => ⟨a, rfl, (hg i hi).1, (hg i hi).2⟩⟩
end
end Go.Proofs.Ytmcbmbcfgefocaa

/- LedgerLost. -/
namespace Go.Proofs.Ytmcbmbcfgefocaa
open Go.RowKit Go.Shelf
set_option linter.unusedSimpArgs false
set_option linter.unusedVariables false

def sumW (X : Nat → RowD) : Nat → Int
  | 0 => 0
  | k + 1 => wrap64 (sumW X k + ((X k).n : Int))
def fewB (X : Nat → RowD) (m : Nat) : Bool := if m < 40 then decide (sumW X m < 8000) else false
theorem few_lt {X : Nat → RowD} {m : Nat} (h : fewB X m = true) : m < 40 := by
  unfold fewB at h
  split at h
  · assumption
  · cases h
set_option maxRecDepth 100000 in
set_option maxHeartbeats 2000000 in
theorem few7 {w : World} {A : Option Addr} {m c : Nat} {X : Nat → RowD} (hX : RowsIn w A m X) :
    Calls Try.prog 10 #[.slice A m c] w fun e w' => e = .returned (.bool (fewB X m)) ∧ Below w.heap.size w w' := by
  have HX : Hid (∀ u i, Below w.heap.size w u → i < m → ∃ ad B d, A = some ad ∧ u.cell? (ad.add i) = some (.slice B (X i).n d) ∧ (X i).n ≤ 9223372036854775807) := fun u i hu hi => by
    obtain ⟨ad, e, hc, _, hn⟩ := hX i hi
    exact ⟨ad, _, _, e, (hu.cell (block_lt_of_cell hc)).trans hc, hn⟩
  clear hX
  go_enter Try.func10, Try.ntmps10
  go_wp2
  go_loopw [3, 4] (fun x3 x4 wr => ∃ k : Nat, k ≤ 40 ∧ k ≤ m ∧ x3 = .int .i64 (sumW X k) ∧ x4 = .int .i64 (k : Nat) ∧ Below w.heap.size w wr) (fun _ x4 _ => 40 - (intOf x4).toNat)
  case atStart => exact ⟨0, by omega, by omega, rfl, rfl, Below.refl _ _⟩
  case round =>
    obtain ⟨k, hk, hkm, rfl, rfl, hbl⟩ := hrel
    have HBL := Lib.hid hbl
    obtain ⟨z, hz⟩ : ∃ z, sumW X k = z := ⟨_, rfl⟩
    have HZ := Lib.hid hz
    rw [hz]
    clear hz
    by_cases h1 : k < m
    · have j1 : (k : Int) < (m : Int) := by omega
      by_cases h2 : k < 40
      · have j2 : (k : Int) < 40 := by omega
        obtain ⟨ad, B, d, rfl, hc, hn⟩ := HX.out wr k hbl h1
        obtain ⟨n, hnn⟩ : ∃ n, (X k).n = n := ⟨_, rfl⟩
        have HNN := Lib.hid hnn
        rw [hnn] at hc hn
        have HK : Hid (k < 40 ∧ k < m) := ⟨h2, h1⟩
        clear hbl h1 h2 hk hkm hnn
        go_wp2
        exact ⟨⟨k + 1, by have := HK.out; omega, by have := HK.out; omega, by show _ = Value.int .i64 (wrap64 (sumW X k + ((X k).n : Int))); rw [HZ.out, HNN.out], by rw [Int.natCast_add]; rfl, HBL.out⟩, by simp [intOf]; have := HK.out; omega⟩
      · have j2 : ¬ (k : Int) < 40 := by omega
        have j3 : ¬ (m : Int) < 40 := by omega
        have HM : Hid (¬ m < 40) := Lib.hid (by omega)
        clear h1 h2 hk hbl hkm
        go_wp2
        go_ret
        exact ⟨by unfold fewB; rw [if_neg HM.out]; rfl, HBL.out⟩
    · have j1 : ¬ (k : Int) < (m : Int) := by omega
      by_cases h3 : m < 40
      · have j3 : (m : Int) < 40 := by omega
        have HM : Hid (m < 40 ∧ k = m) := Lib.hid ⟨h3, by omega⟩
        clear h1 h3 hk hbl hkm
        go_wp2
        go_ret
        exact ⟨by unfold fewB; rw [if_pos HM.out.1, ← HM.out.2, HZ.out]; rfl, HBL.out⟩
      · have j3 : ¬ (m : Int) < 40 := by omega
        have HM : Hid (¬ m < 40) := Lib.hid (by omega)
        clear h1 h3 hk hbl hkm
        go_wp2
        go_ret
        exact ⟨by unfold fewB; rw [if_neg HM.out]; rfl, HBL.out⟩
/-- A row that came in. -/
def RowE.row (r : RowE) : RowD := ⟨r.A, r.n, r.c, r.f⟩
theorem RowsE.rows {w : World} {A : Option Addr} {n : Nat} {X : Nat → RowE} (h : RowsE w A n X) : RowsIn w A n fun i => (X i).row := fun i hi => by
  obtain ⟨ad, e, h1, h2, h3⟩ := h i hi
  exact ⟨ad, e, h1, h2, h3⟩
section
variable {w0 w w' : World} {gl gd N M g used : Nat} {rs : List Rec} {Z Z' : Nat → Prop}
end
end Go.Proofs.Ytmcbmbcfgefocaa
