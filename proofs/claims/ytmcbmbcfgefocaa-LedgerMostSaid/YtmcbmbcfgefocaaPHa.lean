/- The document's awake. -/
import Derived.Test.YtmcbmbcfgefocaaPGu
import Derived.Test.YtmcbmbcfgefocaaPDb
import Derived.ProofKit
import Derived.OpenShut
import Derived.Lib.SmallJoins
namespace Go.Proofs.Ytmcbmbcfgefocaa
open Go.RowKit Go.Shelf
set_option linter.unusedSimpArgs false
set_option linter.unusedVariables false

theorem rec_block {w : World} {Z : Nat → Prop} {b n : Nat} {f : Nat → Nat} {cs : Array Value} {t : TypeId} {m : Nat × Nat} (hz : Z b) (hb : w.heap[b]? = some (.cells cs t m)) (hc : ∀ j, j < n → cs[j]? = some (.int .u8 (f j : Nat))) (hf : ∀ j, j < n → f j < 256) : ∀ V, Kept Z w V → Byt V (.slice (some ⟨b, 0, none⟩) n n) n f := fun V hV => by
  have hb2 : V.heap[b]? = some (.cells cs t m) := (hV.1 b hz).trans hb
  refine ⟨_, n, rfl, Nat.le_refl _, fun j hj => ⟨_, rfl, ?_⟩, hf⟩
  rw [add_mk, Nat.zero_add, cell_of_row _ _ j cs _ _ hb2]
  exact hc j hj
abbrev lit2L (w : World) (x y : Nat) : World := ((w.alloc (.cells #[.int .u8 (x : Nat)] 5)).alloc (.cells #[.int .u8 (y : Nat)] 5)).alloc (.cells #[.slice (some ⟨w.heap.size, 0, none⟩) 1 1, .slice (some ⟨w.heap.size + 1, 0, none⟩) 1 1] 35)
abbrev f2 (x y : Nat) : Nat → Nat := fun i => if i = 0 then x else y
theorem lit2_below (w : World) (x y : Nat) : Below w.heap.size w (lit2L w x y) := ((below_new _ _).trans ((below_new _ _).mono (by simp))).trans ((below_new _ _).mono (by simp; omega))
theorem lit2_size (w : World) (x y : Nat) : (lit2L w x y).heap.size = w.heap.size + 3 := by simp
theorem lit2_rows (w : World) {x y : Nat} (hx : x < 256) (hy : y < 256) {u : World} (hu : ∀ k, w.heap.size ≤ k → k < w.heap.size + 3 → u.heap[k]? = (lit2L w x y).heap[k]?) : RowsIn u (some ⟨w.heap.size + 1 + 1, 0, none⟩) 2 (oneR w.heap.size (f2 x y)) := by
  have b1 := ((Boxed.new w 5 (.int .u8 (x : Nat))).alloc (.cells #[.int .u8 (y : Nat)] 5)).alloc (.cells #[.slice (some ⟨w.heap.size, 0, none⟩) 1 1, .slice (some ⟨w.heap.size + 1, 0, none⟩) 1 1] 35)
  have b2 := (Boxed.new (w.alloc (.cells #[.int .u8 (x : Nat)] 5)) 5 (.int .u8 (y : Nat))).alloc (.cells #[.slice (some ⟨w.heap.size, 0, none⟩) 1 1, .slice (some ⟨w.heap.size + 1, 0, none⟩) 1 1] 35)
  have b3 := heap_alloc_new ((w.alloc (.cells #[.int .u8 (x : Nat)] 5)).alloc (.cells #[.int .u8 (y : Nat)] 5)) (.cells #[.slice (some ⟨w.heap.size, 0, none⟩) 1 1, .slice (some ⟨w.heap.size + 1, 0, none⟩) 1 1] 35)
  rw [World.size_alloc] at b2
  rw [World.size_alloc, World.size_alloc] at b3
  refine ones_in (fun i => by show (if i = 0 then x else y) < 256; split <;> omega) (fun i hi => ?_) ((hu (w.heap.size + 1 + 1) (by omega) (by omega)).trans b3) fun i hi => ?_
  · rcases (by omega : i = 0 ∨ i = 1) with rfl | rfl
    · exact (hu w.heap.size (Nat.le_refl _) (by omega)).trans b1
    · exact (hu (w.heap.size + 1) (by omega) (by omega)).trans b2
  · rcases (by omega : i = 0 ∨ i = 1) with rfl | rfl <;> rfl
theorem same_nil {rs : List Rec} (h : SameL [] rs) : rs = [] := by
  have := h.len
  exact List.eq_nil_of_length_eq_zero (by simpa using this.symm)
set_option maxRecDepth 100000 in
set_option maxHeartbeats 4000000 in
theorem awake9 (w : World) : Calls Try.prog 7 #[] w fun e w' => e = .returned (.bool true) ∧ Below w.heap.size w w' := by
  have HNEW := Lib.hid (held_disk (w := w) (N := 18) (by omega) (by omega))
  have HNO : Hid (∀ u gd, HeldD w u gd (DS.new 18) (fun _ => False) → Calls Try.prog 8 #[.int .i64 17] u fun e w' => ∃ go, e = .returned (.tuple #[.pointer (some ⟨go, 0, none⟩), .int .i64 0]) ∧ Dg w w' gd 18 0 0 0 [] (fun k => u.heap.size ≤ k ∧ k < w'.heap.size) ∧ ∃ F, DskAt F w' go (DS.new 17) ∧ ∀ k, F k → u.heap.size ≤ k ∧ k < w'.heap.size) := Lib.hid fun u gd h => by
    refine (held_disk (w := u) (N := 17) (by omega) (by omega)).mono ?_
    rintro e w' ⟨go, rfl, ho⟩
    have hb := ho.bel
    refine ⟨go, rfl, dg_new (by omega) (by omega) (h.ours (.of_below hb) fun k hk => .inr hk), ?_⟩
    obtain ⟨F, a1, a2, a3, a4⟩ := ho
    exact ⟨F, a1, fun k hk => ⟨(a3 k hk).1, a1.lt k hk⟩⟩
  have HOP : Hid (∀ u gd go (a b : Nat), Dg w u gd 18 0 0 0 [] (fun k => a ≤ k ∧ k < b) → (∃ F, DskAt F u go (DS.new 17) ∧ ∀ k, F k → a ≤ k ∧ k < b) → Calls Try.prog 9 #[.pointer (some ⟨gd, 0, none⟩)] u fun e w' => ∃ gl, e = .returned (.tuple #[.pointer (some ⟨gl, 0, none⟩), .int .i64 0]) ∧ Lg w w' gl gd 18 0 0 0 [] (fun _ => False) ∧ ∃ F, DskAt F w' go (DS.new 17)) := Lib.hid fun u gd go a b h ho => by
    refine (h.open_ (by omega) (by omega)).mono ?_
    rintro e w' ⟨gl, rs2, rfl, hs, hl, hk⟩
    obtain rfl := same_nil hs
    obtain ⟨F, o1, o2⟩ := ho
    exact ⟨gl, rfl, hl.less fun k hk => hk.elim, F, o1.keep (fun k hk' => hk.1 k (o2 k hk')) hk.2⟩
  have HOO : Hid (∀ u gl gd go, Lg w u gl gd 18 0 0 0 [] (fun _ => False) → (∃ F, DskAt F u go (DS.new 17)) → Calls Try.prog 9 #[.pointer (some ⟨go, 0, none⟩)] u fun e w' => e = .returned (.tuple #[.pointer none, .int .i64 1]) ∧ Lg w w' gl gd 18 0 0 0 [] (fun _ => False)) := Lib.hid fun u gl gd go h ho => by
    obtain ⟨F, hF⟩ := ho
    refine (open_no hF (by decide)).mono ?_
    rintro e w' ⟨rfl, hb⟩
    exact ⟨rfl, h.below hb⟩
  have HA2 : Hid (∀ u gl gd, Lg w u gl gd 18 0 0 0 [] (fun _ => False) → Calls Try.prog 19 #[.pointer (some ⟨gl, 0, none⟩), .slice (some ⟨u.heap.size, 0, none⟩) 2 2] (u.alloc (.cells #[.int .u8 1, .int .u8 2] 5)) fun e w' => e = .returned (.int .i64 0) ∧ Lg w w' gl gd 18 1 0 1 [(2, f2 1 2)] (fun _ => False)) := Lib.hid fun u gl gd h => by
    have hb := below_new u (.cells #[.int .u8 1, .int .u8 2] 5)
    have h2 := h.new (Z' := fun k => k = u.heap.size) hb fun k hk => .inr (by subst hk; simp)
    refine (h2.append (by omega) (by omega) (by omega) (n := 2) (f := f2 1 2) (c := 2) (rec_block (n := 2) (f := f2 1 2) rfl (heap_alloc_new u _) (fun j hj => by rcases (by omega : j = 0 ∨ j = 1) with rfl | rfl <;> rfl) fun j _ => by show (if j = 0 then 1 else 2) < 256; split <;> omega) (by omega) (by omega)).mono ?_
    rintro e w' ⟨_, ⟨_, rfl, hl⟩ | ⟨hno, _⟩⟩
    · exact ⟨rfl, hl.less fun k hk => hk.elim⟩
    · exact absurd ⟨by decide, by decide⟩ hno
  have HCO : Hid (∀ u gl gd, Lg w u gl gd 18 1 0 1 [(2, f2 1 2)] (fun _ => False) → Calls Try.prog 12 #[.pointer (some ⟨gl, 0, none⟩), .slice (some ⟨u.heap.size + 1 + 1, 0, none⟩) 2 2] (lit2L u 3 4) fun e w' => e = .returned (.int .i64 0) ∧ Lg w w' gl gd 18 3 1 2 (recsOf (oneR 0 (f2 3 4)) 2) (fun _ => False)) := Lib.hid fun u gl gd h => by
    have h2 := h.new (Z' := fun k => u.heap.size ≤ k ∧ k < u.heap.size + 3) (lit2_below u 3 4) fun k hk => .inr (by rw [lit2_size]; exact hk)
    have hs := sum_ones u.heap.size (f2 3 4) 2
    refine (h2.compact (by omega) (by omega) (by omega) (n := 2) (R := oneR u.heap.size (f2 3 4)) (c := 2) (fun V hV _ => lit2_rows u (by decide) (by decide) fun k k1 k2 => hV.1 k ⟨k1, k2⟩) (by omega)).mono ?_
    rintro e w' ⟨_, ⟨_, rfl, hl⟩ | ⟨hno, _⟩⟩
    · rw [hs] at hl
      exact ⟨rfl, hl.less fun k hk => hk.elim⟩
    · exact absurd ⟨fun i _ => by show needF 1 ≠ 0; rw [need_one]; decide, by decide, by rw [hs]; decide, by decide⟩ hno
  have HA3 : Hid (∀ u u2 gl gd, Lg w u gl gd 18 3 1 2 (recsOf (oneR 0 (f2 3 4)) 2) (fun _ => False) → u2.rowIs u.heap.size 5 392 (fun _ => .int .u8 0) → Below u.heap.size u u2 → u2.heap.size = u.heap.size + 1 → Calls Try.prog 19 #[.pointer (some ⟨gl, 0, none⟩), .slice (some ⟨u.heap.size, 0, none⟩) 392 392] u2 fun e w' => e = .returned (.int .i64 3) ∧ Lg w w' gl gd 18 3 1 2 (recsOf (oneR 0 (f2 3 4)) 2) (fun _ => False)) := Lib.hid fun u u2 gl gd h hr hb hs => by
    have h2 := h.new (Z' := fun k => k = u.heap.size) hb fun k hk => .inr (by subst hk; omega)
    refine (h2.append (by omega) (by omega) (by omega) (n := 392) (f := fun _ => 0) (c := 392) (fun V hV => ?_) (by omega) (by omega)).mono ?_
    · have hr2 := hr.of_block (hV.1 u.heap.size rfl)
      exact ⟨_, 392, rfl, Nat.le_refl _, fun j hj => ⟨_, rfl, by rw [add_mk, Nat.zero_add]; exact hr2.cell hj⟩, fun j hj => by show (0 : Nat) < 256; decide⟩
    · rintro e w' ⟨_, ⟨hyes, _⟩ | ⟨_, rfl, hl⟩⟩
      · exact absurd hyes.2 (by decide)
      · exact ⟨rfl, hl.less fun k hk => hk.elim⟩
  have HRC : Hid (∀ u gl gd, Lg w u gl gd 18 3 1 2 (recsOf (oneR 0 (f2 3 4)) 2) (fun _ => False) → Calls Try.prog 17 #[.pointer (some ⟨gl, 0, none⟩)] u fun e w' => ∃ A c, e = .returned (.slice A 2 c) ∧ RowsBy w' (.slice A 2 c) (recsOf (oneR 0 (f2 3 4)) 2) ∧ Lg w w' gl gd 18 3 1 2 (recsOf (oneR 0 (f2 3 4)) 2) (fun _ => False)) := Lib.hid fun u gl gd h => by
    refine h.records.mono ?_
    rintro e w' ⟨⟨v', rfl, hl⟩, hb⟩
    obtain ⟨A, c, rfl⟩ := hl.form
    exact ⟨A, c, rfl, hl.by_, h.below hb⟩
  have HAL : Hid (∀ u gl gd A c, RowsBy u (.slice A 2 c) (recsOf (oneR 0 (f2 3 4)) 2) → Lg w u gl gd 18 3 1 2 (recsOf (oneR 0 (f2 3 4)) 2) (fun _ => False) → Calls Try.prog 16 #[.slice A 2 c, .slice (some ⟨u.heap.size + 1 + 1, 0, none⟩) 2 2] (lit2L u 3 4) fun e w' => e = .returned (.bool true) ∧ Lg w w' gl gd 18 3 1 2 (recsOf (oneR 0 (f2 3 4)) 2) (fun _ => False)) := Lib.hid fun u gl gd A c h hl => by
    refine (alikeL_yes (rs' := recsOf (oneR u.heap.size (f2 3 4)) 2) (h.below (lit2_below u 3 4)) (ones_recs u.heap.size (f2 3 4) 2 (lit2_rows u (by decide) (by decide) fun _ _ _ => rfl)) (SameL.refl _) (by decide)).mono ?_
    rintro e w' ⟨rfl, hb⟩
    exact ⟨rfl, (hl.below (lit2_below u 3 4)).below hb⟩
  have HFR : Hid (∀ u gl gd, Lg w u gl gd 18 3 1 2 (recsOf (oneR 0 (f2 3 4)) 2) (fun _ => False) → Calls Try.prog 15 #[.pointer (some ⟨gl, 0, none⟩)] u fun e w' => e = .returned (.int .i64 6) ∧ Lg w w' gl gd 18 3 1 2 (recsOf (oneR 0 (f2 3 4)) 2) (fun _ => False)) := Lib.hid fun u gl gd h => h.free.mono fun e w' hp => ⟨hp.1, h.below hp.2⟩
  have HUS : Hid (∀ u gl gd, Lg w u gl gd 18 3 1 2 (recsOf (oneR 0 (f2 3 4)) 2) (fun _ => False) → Calls Try.prog 14 #[.pointer (some ⟨gl, 0, none⟩)] u fun e w' => e = .returned (.int .i64 2) ∧ Lg w w' gl gd 18 3 1 2 (recsOf (oneR 0 (f2 3 4)) 2) (fun _ => False)) := Lib.hid fun u gl gd h => (h.used_ (by omega) (by omega)).mono fun e w' hp => ⟨hp.1, h.below hp.2⟩
  have HGN : Hid (∀ u gl gd, Lg w u gl gd 18 3 1 2 (recsOf (oneR 0 (f2 3 4)) 2) (fun _ => False) → Calls Try.prog 13 #[.pointer (some ⟨gl, 0, none⟩)] u fun e w' => e = .returned (.int .u32 1) ∧ Below w.heap.size w w') := Lib.hid fun u gl gd h => h.gen.mono fun e w' hp => ⟨hp.1, by rw [← hp.2]; exact h.bel⟩
  go_enter Try.func7, Try.ntmps7
  go_wp2_with (first
    | (have _t := H1; clear _t; go_at_call 8; refine (HNO.out _ _ H1.out).mono ?_; rintro e w2 ⟨go, rfl, h2, o2⟩; have H2 := Lib.hid h2; have O2 := Lib.hid o2; clear h2 o2)
    | (go_at_call 8; refine HNEW.out.mono ?_; rintro e w1 ⟨gd, rfl, h1⟩; have H1 := Lib.hid h1; clear h1)
    | (have _t := H3; clear _t; go_at_call 9; refine (HOO.out _ _ _ _ H3.out O3.out).mono ?_; rintro e w4 ⟨rfl, h4⟩; have H4 := Lib.hid h4; clear h4)
    | (go_at_call 9; refine (HOP.out _ _ _ _ _ H2.out O2.out).mono ?_; rintro e w3 ⟨gl, rfl, h3, o3⟩; have H3 := Lib.hid h3; have O3 := Lib.hid o3; clear h3 o3)
    | (have _t := M7; clear _t; go_at_call 19; refine (HA3.out _ _ _ _ H6.out M7.out.1 M7.out.2.1 M7.out.2.2).mono ?_; rintro e w8 ⟨rfl, h8⟩; have H8 := Lib.hid h8; clear h8)
    | (go_at_call 19; refine (HA2.out _ _ _ H4.out).mono ?_; rintro e w5 ⟨rfl, h5⟩; have H5 := Lib.hid h5; clear h5)
    | (go_at_call 12; refine (HCO.out _ _ _ H5.out).mono ?_; rintro e w6 ⟨rfl, h6⟩; have H6 := Lib.hid h6; clear h6)
    | (at_make; refine wpList_make_rowIs rfl _ _ 35 rfl 5 (.int .u8 0) 1 Try.underlying35 u8_info rfl .i64 .i64 _ _ 392 rfl rfl rfl rfl (by omega) (by omega) ?_; intro w7 hr7 hb7 hs7; have M7 := Lib.hid (And.intro hr7 (And.intro hb7 hs7)); clear hr7 hb7 hs7)
    | (go_at_call 17; refine (HRC.out _ _ _ H8.out).mono ?_; rintro e w9 ⟨A9, c9, rfl, r9, h9⟩; have H9 := Lib.hid h9; have R9 := Lib.hid r9; clear h9 r9)
    | (go_at_call 16; refine (HAL.out _ _ _ _ _ R9.out H9.out).mono ?_; rintro e w10 ⟨rfl, h10⟩; have H10 := Lib.hid h10; clear h10)
    | (go_at_call 15; refine (HFR.out _ _ _ H10.out).mono ?_; rintro e w11 ⟨rfl, h11⟩; have H11 := Lib.hid h11; clear h11)
    | (go_at_call 14; refine (HUS.out _ _ _ H11.out).mono ?_; rintro e w12 ⟨rfl, h12⟩; have H12 := Lib.hid h12; clear h12)
    | (go_at_call 13; refine (HGN.out _ _ _ H12.out).mono ?_; rintro e w13 ⟨rfl, h13⟩; have H13 := Lib.hid h13; clear h13))
  go_ret
  exact ⟨rfl, H13.out⟩
end Go.Proofs.Ytmcbmbcfgefocaa

/- LedgerLost. -/
namespace Go.Proofs.Ytmcbmbcfgefocaa
open Go.RowKit Go.Shelf
set_option linter.unusedSimpArgs false
set_option linter.unusedVariables false

section
variable {w0 w w' : World} {gl gd N M g used : Nat} {rs : List Rec} {Z Z' : Nat → Prop}
end
/-- A row of one byte, made. -/
theorem lit1_rec (w : World) (x : Nat) (hx : x < 256) {Z : Nat → Prop} (hz : Z w.heap.size) : ∀ V, Kept Z (w.alloc (.cells #[.int .u8 (x : Nat)] 5)) V → Byt V (.slice (some ⟨w.heap.size, 0, none⟩) 1 1) 1 (fun _ => x) :=
  rec_block (n := 1) (f := fun _ => x) hz (heap_alloc_new w _) (fun j hj => by obtain rfl : j = 0 := (by omega); rfl) fun j _ => hx
end Go.Proofs.Ytmcbmbcfgefocaa

/- LedgerMost: its parts. -/
namespace Go.Proofs.Ytmcbmbcfgefocaa
open Go.RowKit Go.Shelf
set_option linter.unusedSimpArgs false
set_option linter.unusedVariables false

theorem run_append_zero (A : Option Addr) (L c : Nat) (hc : L ≤ c) (ty : TypeId) (w : World) : (Builtin.append_ #[33, 3] ty #[.slice A L c, .int .i64 0]).run Try.prog w = .ok (.slice A L c) w := by
  obtain ⟨i, hi, hz⟩ := Option.map_eq_some_iff.1 rows_info
  have hz1 : i.size = 1 := by simp at hz; exact hz.2.1
  cases A with
  | none => simp [Builtin.append_, run_underlying Try.underlying33, run_underlying Try.underlying3, sizeOf, typeInfo, hi, hc, storeCells, asInt, asIntOf, IntKind.wrap_i64, Sem.run_pure, Result.andThen]
  | some a => simp [Builtin.append_, run_underlying Try.underlying33, run_underlying Try.underlying3, sizeOf, typeInfo, hi, hc, storeCells, asInt, asIntOf, IntKind.wrap_i64, Sem.run_pure, Result.andThen]
theorem wpList_append_zero {w : World} {ops : Array Oper} {rest : List Oper} {o : Oper} {a : Act} {Q : Exit → Act → World → Prop} (hgd : o.guard = none) (s : Operand) (ho : o.op = .call { callee := .builtin .append, args := #[s, .const (.int .i64 0)], argTypes := #[33, 3] }) (A : Option Addr) (L c : Nat) (hs : a.eval s = .slice A L c) (hc : L ≤ c)
    (h : wpList Try.prog ops Q rest (a.put o.dst (.slice A L c)) w) : wpList Try.prog ops Q (o :: rest) a w := by
  refine wpList_plain hgd fun K hK => ?_
  have hrun := run_append_zero A L c hc o.type w
  have hx : a.eval (.const (.int .i64 0)) = .int .i64 0 := rfl
  unfold Oper.wp
  simp [execOp, ho, resolve, invoke, builtin, hs, hx, hrun, Result.andThen]
  exact hK _ _ h
theorem sum_one {R : Nat → RowD} : ∀ n, (∀ i, i < n → (R i).n = 1) → sumN R n = n
  | 0, _ => rfl
  | n + 1, h => by
    show sumN R n + needF (R n).n = n + 1
    rw [sum_one n fun i hi => h i (by omega), h n (by omega), need_one]
section
variable {w0 w w' : World} {gl gd M g : Nat} {rs : List Rec} {Z Z' G : Nat → Prop}
/-- A copy of a list of rows. -/
theorem copy_list {w9 : World} {v1 : Value} {vs : List Value} (hG : ∀ k, G k → k < w.heap.size) (h2 : ∀ (i : Nat) (r : Rec), rs[i]? = some r → ∃ u, vs[i]? = some u ∧ Byt w u r.1 r.2 ∧ Typ8 w u ∧ r.1 ≤ 1000000 ∧ ∀ k, u.ownBlock = some k → G k)
    (ho : w9.ownsRow w.heap.size 35 1 v1 rs.length vs) (hg : (w.alloc (.cells #[] 35)).grownBy w9 (some w.heap.size)) : ListG (fun k => G k ∨ (w.heap.size ≤ k ∧ k < w9.heap.size)) w9 w.heap.size v1 rs := by
  have hb := below_new w (.cells #[] 35)
  refine ⟨vs, ho, fun k e => .inr (World.ownsRow.lt ho k e), fun i r hi => ?_⟩
  obtain ⟨u, a1, a2, a3, a4, a5⟩ := h2 i r hi
  obtain ⟨b1, b2⟩ := byt_kept (w' := w9) a2 a3 a5 fun k hk hl => (hg.block k (by rw [World.size_alloc]; omega) fun e => by injection e with e; omega).trans (hb.block k hl)
  exact ⟨u, a1, b1, b2, a4, fun k e => .inl (a5 k e)⟩
/-- So many records, each of one byte. -/
def Mo (w0 w : World) (gl gd j : Nat) : Prop := ∃ rs : List Rec, rs.length = min j 200 ∧ (∀ r ∈ rs, r.1 = 1) ∧ Lg w0 w gl gd 512 rs.length 0 rs.length rs (fun _ => False)
theorem half512 : halfN 512 = 255 := by decide
theorem Mo.append {i : Nat} (h : Mo w0 w gl gd (i - 1)) (h1 : 1 ≤ i) (h2 : i < 256) : Calls Try.prog 19 #[.pointer (some ⟨gl, 0, none⟩), .slice (some ⟨w.heap.size, 0, none⟩) 1 1] (w.alloc (.cells #[.int .u8 (i : Nat)] 5)) fun e w' => ((i ≤ 200 → e = .returned (.int .i64 0)) ∧ (200 < i → e = .returned (.int .i64 3))) ∧ Mo w0 w' gl gd i := by
  obtain ⟨rs, a1, a2, a3⟩ := h
  have hb := below_new w (.cells #[.int .u8 (i : Nat)] 5)
  have h3 := a3.new (Z' := fun k => k = w.heap.size) hb fun k hk => .inr (by subst hk; simp)
  refine (h3.append (by omega) (by omega) (by omega) (lit1_rec w i h2 rfl) (by omega) (by omega)).mono ?_
  rintro e w' ⟨_, ⟨hok, rfl, hl⟩ | ⟨hno, rfl, hl⟩⟩
  · have hlen := hok.1
    refine ⟨⟨fun _ => rfl, fun h => by omega⟩, rs ++ [(1, fun _ => i)], by rw [List.length_append, List.length_singleton]; omega, fun r hr => ?_, ?_⟩
    · rcases List.mem_append.1 hr with hr | hr
      · exact a2 r hr
      · simp at hr
        rw [hr]
    · rw [List.length_append, List.length_singleton]
      rw [need_one] at hl
      exact hl.less fun k hk => hk.elim
  · have hlen : ¬ rs.length < 200 := fun hlt => hno ⟨hlt, by rw [half512, need_one]; omega⟩
    exact ⟨⟨fun h => by omega, fun _ => rfl⟩, rs, by omega, a2, hl.less fun k hk => hk.elim⟩
/-- A ledger, and a list of records of one byte each beside it. -/
def Al (w0 w : World) (gl gd L : Nat) (A : Option Addr) (c M g : Nat) : Prop := ∃ (rs rs0 : List Rec) (Z : Nat → Prop) (base : Nat), (rs.length = L ∧ L ≤ c) ∧ (∀ r ∈ rs, r.1 = 1) ∧ ListG Z w base (.slice A L c) rs ∧ Lg w0 w gl gd 512 M g L rs0 Z
theorem Mo.records {j L : Nat} (h : Mo w0 w gl gd j) (hL : min j 200 = L) : Calls Try.prog 17 #[.pointer (some ⟨gl, 0, none⟩)] w fun e w' => ∃ A c, e = .returned (.slice A L c) ∧ L ≤ c ∧ Al w0 w' gl gd L A c L 0 := by
  obtain ⟨rs, a1, a2, a3⟩ := h
  refine a3.records.mono ?_
  rintro e w' ⟨⟨v', rfl, hl⟩, hb⟩
  obtain ⟨A, c, rfl, hc⟩ := hl.recs.cap
  have hlen : rs.length = L := by omega
  rw [hlen] at hl hc a3
  refine ⟨A, c, by rw [hlen], hc, rs, rs, _, w.heap.size, ⟨hlen, hc⟩, a2, hl, a3.new hb fun k hk => .inr hk⟩
theorem Al.used {L c : Nat} {A : Option Addr} (h : Al w0 w gl gd L A c M g) : Calls Try.prog 14 #[.pointer (some ⟨gl, 0, none⟩)] w fun e w' => e = .returned (.int .i64 (L : Nat)) ∧ Al w0 w' gl gd L A c M g := by
  obtain ⟨rs, rs0, Z, base, h1, h2, h3, h4⟩ := h
  exact (h4.used_ (by omega) (by omega)).mono fun e w' hp => ⟨hp.1, rs, rs0, Z, base, h1, h2, h3.below hp.2, h4.below hp.2⟩
/-- Records of one byte each are what a ledger is compacted to. -/
theorem ones_compact {rs1 rs0 : List Rec} {L used c m base : Nat} {A : Option Addr} (hm : m ≤ rs1.length) (hL : rs1.length = L) (hm2 : m ≤ 200) (hM : M ≤ 1000000) (hg : g ≤ 1000) (h2 : ∀ r ∈ rs1, r.1 = 1) (h3 : ListG Z w base (.slice A L c) rs1) (h4 : Lg w0 w gl gd 512 M g used rs0 Z) :
    Calls Try.prog 12 #[.pointer (some ⟨gl, 0, none⟩), .slice A m c] w fun e w' => e = .returned (.int .i64 0) ∧ Kept Z w w' ∧ ∃ rs', rs'.length = m ∧ Lg w0 w' gl gd 512 (M + m) (g + 1) m rs' Z := by
  obtain ⟨A', c', R, e, hr, hk⟩ := h3.rows
  rw [hL] at e hk
  cases e
  have hR1 : ∀ i, i < m → (R i).n = 1 := fun i hi => by
    have hlt : i < rs1.length := by omega
    rw [(hr i _ (List.getElem?_eq_getElem hlt)).1]
    exact h2 _ (List.getElem_mem hlt)
  have hs := sum_one m hR1
  refine (h4.compact (by omega) (by omega) hM (R := R) (n := m) (c := c) (fun V hV _ i hi => hk V hV i (by omega)) (by omega)).mono ?_
  rintro e w' ⟨hkk, ⟨_, rfl, hl⟩ | ⟨hno, _⟩⟩
  · rw [hs] at hl
    exact ⟨rfl, hkk, recsOf R m, by unfold recsOf; simp, hl⟩
  · exact absurd ⟨fun i hi => by rw [hR1 i hi, need_one]; decide, hm2, by rw [hs, half512]; omega, by omega⟩ hno
theorem Al.compact {L c : Nat} {A : Option Addr} (h : Al w0 w gl gd L A c M g) (hL : L ≤ 200) (hM : M ≤ 1000000) (hg : g ≤ 1000) : Calls Try.prog 12 #[.pointer (some ⟨gl, 0, none⟩), .slice A L c] w fun e w' => e = .returned (.int .i64 0) ∧ Al w0 w' gl gd L A c (M + L) (g + 1) := by
  obtain ⟨rs, rs0, Z, base, h1, h2, h3, h4⟩ := h
  refine (ones_compact (by rw [h1.1]; exact Nat.le_refl _) h1.1 hL hM hg h2 h3 h4).mono ?_
  rintro e w' ⟨rfl, hk, rs', _, hl⟩
  exact ⟨rfl, rs, rs', Z, base, h1, h2, h3.kept hk, hl⟩
theorem Al.less {L c : Nat} {A : Option Addr} (h : Al w0 w gl gd L A c M g) (hL : L ≤ 200) (hL1 : 1 ≤ L) (hM : M ≤ 1000000) (hg : g ≤ 1000) : Calls Try.prog 12 #[.pointer (some ⟨gl, 0, none⟩), .slice A 1 c] w fun e w' => e = .returned (.int .i64 0) ∧ ∃ rs' : List Rec, rs'.length = 1 ∧ Lg w0 w' gl gd 512 (M + 1) (g + 1) 1 rs' (fun _ => False) := by
  obtain ⟨rs, rs0, Z, base, h1, h2, h3, h4⟩ := h
  refine (ones_compact (m := 1) (by rw [h1.1]; exact hL1) h1.1 (by omega) hM hg h2 h3 h4).mono ?_
  rintro e w' ⟨rfl, hk, rs', hl', hl⟩
  exact ⟨rfl, rs', hl', hl.less fun k hk => hk.elim⟩
/-- A ledger, a list, and a copy of it. -/
def Cp (w0 w : World) (gl gd L : Nat) (A : Option Addr) (c : Nat) (A1 : Option Addr) (c1 M g : Nat) : Prop := ∃ (rs rs0 : List Rec) (Z : Nat → Prop) (base base1 : Nat), (rs.length = L ∧ L ≤ c) ∧ (∀ r ∈ rs, r.1 = 1) ∧ ListG Z w base (.slice A L c) rs ∧ ListG Z w base1 (.slice A1 L c1) rs ∧ Lg w0 w gl gd 512 M g L rs0 Z
theorem Cp.compact {L c c1 : Nat} {A A1 : Option Addr} (h : Cp w0 w gl gd L A c A1 c1 M g) (hL : L ≤ 200) (hM : M ≤ 1000000) (hg : g ≤ 1000) : Calls Try.prog 12 #[.pointer (some ⟨gl, 0, none⟩), .slice A1 L c1] w fun e w' => e = .returned (.int .i64 0) ∧ Al w0 w' gl gd L A c (M + L) (g + 1) := by
  obtain ⟨rs, rs0, Z, base, base1, h1, h2, h3, h3', h4⟩ := h
  refine (ones_compact (by rw [h1.1]; exact Nat.le_refl _) h1.1 hL hM hg h2 h3' h4).mono ?_
  rintro e w' ⟨rfl, hk, rs', _, hl⟩
  exact ⟨rfl, rs, rs', Z, base, h1, h2, h3.kept hk, hl⟩
theorem Al.copy {L c : Nat} {A : Option Addr} (h : Al w0 w gl gd L A c M g) (hL1 : 1 ≤ L) : ∃ (ad : Addr) (vs : List Value), A = some ad ∧ vs.length = L * 1 ∧ (∀ (j : Nat) (x : Value), vs[j]? = some x → (w.alloc (.cells #[] 35)).cell? (ad.add j) = some x) ∧ (∀ x ∈ vs, x.oneCell' = true) ∧
    ∀ v1 w9, w9.ownsRow w.heap.size 35 1 v1 (0 + L) ([] ++ vs) → (w.alloc (.cells #[] 35)).grownBy w9 (some w.heap.size) → ∃ A1 c1, v1 = .slice A1 L c1 ∧ L ≤ c1 ∧ Cp w0 w9 gl gd L A c A1 c1 M g := by
  obtain ⟨rs, rs0, Z, base, ⟨hrl, hLc⟩, h2, h3, h4⟩ := h
  subst hrl
  have hb := below_new w (.cells #[] 35)
  have hl3 := h3
  obtain ⟨vs, a1, a2, a3⟩ := h3
  have hzl : ∀ k, Z k → k < w.heap.size := fun k hk => (h4.z_lt k hk).2
  have hlen : vs.length = rs.length * 1 := by simpa using a1.1
  rcases a1.2 with ⟨e, h0⟩ | ⟨gg, cc, cur, e, b1, b2, b3⟩
  · omega
  · obtain ⟨rfl, rfl⟩ : A = some ⟨gg, 0, none⟩ ∧ c = cc := by simpa using e
    refine ⟨_, vs, rfl, hlen, fun j x hx => ?_, fun x hx => ?_, fun v1 w9 p1 p2 => ?_⟩
    · have hc : w.cell? ((⟨gg, 0, none⟩ : Addr).add j) = some x := a1.cells rfl j x hx
      exact (hb.cell (block_lt_of_cell hc)).trans hc
    · obtain ⟨i, hi⟩ := List.mem_iff_getElem?.1 hx
      have hlt : i < rs.length := by have := (List.getElem?_eq_some_iff.1 hi).1; omega
      obtain ⟨u, c1, c2, _⟩ := a3 i _ (List.getElem?_eq_getElem hlt)
      rw [hi] at c1
      injection c1 with c1
      rw [c1]
      exact c2.one
    · rw [Nat.zero_add, List.nil_append] at p1
      have hcp := copy_list hzl a3 p1 p2
      obtain ⟨A1, c1, rfl, hc1⟩ := hcp.recs.cap
      have hbw : Below w.heap.size w w9 := hb.grown p2 (by rw [World.size_alloc]; omega) fun g hg => by injection hg with hg; omega
      exact ⟨A1, c1, rfl, hc1, rs, rs0, _, base, w.heap.size, ⟨rfl, hLc⟩, h2, (hl3.below hbw).mono fun k hk => .inl hk, hcp, h4.new hbw fun k hk => hk⟩
end
end Go.Proofs.Ytmcbmbcfgefocaa
