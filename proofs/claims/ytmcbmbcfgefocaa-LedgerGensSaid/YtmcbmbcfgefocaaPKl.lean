/- Whether a cell may be, by the document; how many cells a record has: both sides. -/
import Derived.Test.YtmcbmbcfgefocaaPKc
import Derived.Test.YtmcbmbcfgefocaaPKf2
import Derived.RangeFuncBox
import Derived.RangeFuncLeaves
import Derived.Shelf.Abstract
import Derived.OwnWalkIn
import Derived.TacticsInMore
import Derived.LoopNIn
import Derived.LoopIn
import Derived.IntWalk
import Derived.Test.YtmcbmbcfgefocaaPKd
import Derived.Laws.AppendOwn
namespace Go.Proofs.Ytmcbmbcfgefocaa
open Go.RowKit
set_option linter.unusedSimpArgs false
set_option linter.unusedVariables false

set_option maxRecDepth 100000 in
set_option maxHeartbeats 2000000 in
theorem need_any (n : Nat) (w : World) (hn : n ≤ 9223372036854775807) :
    Calls Try.prog 45 #[.int .i64 (n : Nat)] w fun e w' => e = .returned (.int .i64 (needF n : Nat)) ∧ w' = w := by
  obtain ⟨B, hB⟩ : ∃ B, needF n = B := ⟨_, rfl⟩
  have hB2 := hB
  unfold needF at hB2
  rw [hB]
  clear hB
  by_cases h1 : n < 1
  · go_enter Try.func45, Try.ntmps45
    go_wp2
    go_ret
    rw [if_pos (by omega)] at hB2
    subst hB2
    exact ⟨rfl, rfl⟩
  by_cases h2 : 392 < n
  · go_enter Try.func45, Try.ntmps45
    go_wp2
    go_ret
    rw [if_pos (by omega)] at hB2
    subst hB2
    exact ⟨rfl, rfl⟩
  · rw [if_neg (by omega)] at hB2
    have HB := Lib.hid hB2
    clear hB2
    go_enter Try.func45, Try.ntmps45
    go_wp2
    go_ret
    have := HB.out
    refine ⟨congrArg (fun x => Ending.returned (.int .i64 x)) ?_, rfl⟩
    omega
set_option maxRecDepth 100000 in
set_option maxHeartbeats 2000000 in
theorem rneed_any (n : Nat) (w : World) (hn : n ≤ 9223372036854775807) :
    Calls Try.prog 11 #[.int .i64 (n : Nat)] w fun e w' => e = .returned (.int .i64 (needF n : Nat)) ∧ w' = w := by
  obtain ⟨B, hB⟩ : ∃ B, needF n = B := ⟨_, rfl⟩
  have hB2 := hB
  unfold needF at hB2
  rw [hB]
  clear hB
  by_cases h1 : n < 1
  · go_enter Try.func11, Try.ntmps11
    go_wp2
    go_ret
    rw [if_pos (by omega)] at hB2
    subst hB2
    exact ⟨rfl, rfl⟩
  by_cases h2 : 392 < n
  · go_enter Try.func11, Try.ntmps11
    go_wp2
    go_ret
    rw [if_pos (by omega)] at hB2
    subst hB2
    exact ⟨rfl, rfl⟩
  · rw [if_neg (by omega)] at hB2
    have HB := Lib.hid hB2
    clear hB2
    go_enter Try.func11, Try.ntmps11
    go_wp2
    go_loopw [3] (fun v wr => ∃ k : Nat, v = .int .i64 (k : Nat) ∧ 1 ≤ k ∧ 49 * (k - 1) < n ∧ wr = w) (fun v _ => n - (intOf v).toNat)
    case atStart => exact ⟨1, rfl, by omega, by omega, rfl⟩
    case round =>
      obtain ⟨k, rfl, hk, hkn, rfl⟩ := hrel
      by_cases hd : 49 * k < n
      · have hd2 : (49 : Int) * (k : Int) < (n : Int) := by omega
        go_wp2
        go_roundw
        case rel => exact ⟨k + 1, by go_num, by omega, by omega, by first | rfl | trivial⟩
        case measure => simp [intOf]; omega
      · have hd2 : ¬ ((49 : Int) * (k : Int) < (n : Int)) := by omega
        go_wp2
        go_ret
        have := HB.out
        refine ⟨congrArg (fun x => Ending.returned (.int .i64 x)) ?_, rfl⟩
        omega
end Go.Proofs.Ytmcbmbcfgefocaa

/- Contracts: the parts of a record, one by one (an iterator over a slice). -/
namespace Go.Proofs.Ytmcbmbcfgefocaa
open Go.RowKit Go.Shelf
set_option linter.unusedSimpArgs false
set_option linter.unusedVariables false
attribute [local go_sem] Oper.semAt_some

/-- How long a part is. -/
def dl (n k : Nat) : Nat := min (49 * k + 49) n - 49 * k
abbrev encP (R : Addr) (n k : Nat) : Array Value := #[.int .i64 (k : Nat), .slice (some (R.add (49 * k))) (dl n k) (dl n k)]
def KpB (b : Nat) (W W' : World) : Prop := W'.heap[b]? = W.heap[b]?
theorem slice_part (R : Addr) (n c k : Nat) (hk : 49 * k < n) (hc : n ≤ c) (wq : World) :
    (Instr.slice 35 (.slice (some R) n c) (some (.int .i64 ((k : Int) * 49))) (some (.int .i64 ((min (49 * k + 49) n : Nat) : Int))) (some (.int .i64 ((min (49 * k + 49) n : Nat) : Int)))).run Try.prog wq = .ok (.slice (some (R.add (49 * k))) (dl n k) (dl n k)) wq := by
  have h1 : 49 * k ≤ min (49 * k + 49) n := by omega
  have h2 : min (49 * k + 49) n ≤ c := by omega
  have h3 : min (49 * k + 49) n ≠ 49 * k := by omega
  unfold dl
  generalize min (49 * k + 49) n = m at *
  rw [show ((k : Int) * 49) = ((49 * k : Nat) : Int) from by omega, run_slice_lhm wq 35 (some R) n c el8 .i64 .i64 .i64 _ _ _ (by omega) (by omega) (by omega) (by omega), sz8]
  simp only [Result.andThen, sliced, Int.toNat_natCast, Nat.mul_one, Option.map_some]
  rw [if_neg h3]

set_option maxRecDepth 100000 in
set_option maxHeartbeats 2000000 in
theorem parts_any (A : Option Addr) (n c : Nat) (w : World) :
    Calls Try.prog 83 #[.slice A n c] w fun e w' => e = .returned (.func (.func 87) #[] #[.pointer (some ⟨w.heap.size, 0, none⟩)]) ∧ w' = w.alloc (.cells #[.slice A n c] 35) := by
  go_enter Try.func83, Try.ntmps83
  go_wp2
  go_ret
  exact ⟨rfl, rfl⟩

set_option maxRecDepth 100000 in
set_option maxHeartbeats 4000000 in
theorem parts1_in (n l Bs : Nat) (R : Addr) (len cap : Nat) (hlen : len ≤ 392) (h0l : 0 < len) (hcap : len ≤ cap) (J Jx : List Nat → World → Prop) (W : World)
    (hY : ∀ pre x W, J pre W → pre.length < needF len → YieldAt Fence.wide (n - 1) Try.prog l (encP R len x) W fun e W' =>
      (e = .returned (.bool true) ∧ J (pre ++ [x]) W' ∧ KpB Bs W W') ∨ (e = .returned (.bool false) ∧ Jx (pre ++ [x]) W'))
    (hB : Boxed W Bs 35 (.slice (some R) len cap)) (h0 : J [] W) :
    CallsIn Fence.wide n Try.prog 87 #[.func (.yield l) #[] #[], .pointer (some ⟨Bs, 0, none⟩)] W fun e W' => (∃ v, e = .returned v) ∧
      ((∃ ys, ys = List.range (needF len) ∧ J ys W') ∨ (∃ pre, (∃ k, k ≤ needF len ∧ pre = List.range k) ∧ Jx pre W')) := by
  have hne : needF len = (len + 48) / 49 := by unfold needF; rw [if_neg (by omega)]
  have hn8 : needF len ≤ 8 := by omega
  have HND : Hid (∀ w : World, Calls Try.prog 45 #[.int .i64 (len : Nat)] w fun e w' => e = .returned (.int .i64 (needF len : Nat)) ∧ w' = w) := fun w => need_any len w (by omega)
  have HNE := Lib.hid hne
  clear hne
  generalize needF len = N at *
  refine callsIn_of_wp Try.func87 rfl trivial ?_ rfl
  simp only [Try.ntmps87, List.size_toArray, List.length_cons, List.length_nil, Nat.reduceAdd, Nat.reduceSub, Array.replicate_succ, Array.replicate_zero, List.push_toArray, List.append_toArray, List.nil_append, List.cons_append]
  have hc := hB.cell
  gi_wp2_with (refine ⟨trivial, fun h => (by cases h), ?_⟩; gi_at_call 45; refine (callsIn_wide.2 (HND.out _)).mono ?_; rintro e w' ⟨rfl, rfl⟩)
  gi_loopw [9] (fun i wr => ∃ k : Nat, k ≤ N ∧ i = .int .i64 (k : Nat) ∧ J (List.range k) wr ∧ Boxed wr Bs 35 (.slice (some R) len cap))
    (fun i _ => N - (intOf i).toNat)
  case atStart => exact ⟨0, Nat.zero_le _, rfl, h0, hB⟩
  case round =>
    obtain ⟨k, hk, rfl, hJs, hbx⟩ := hrel
    by_cases hlt : k < N
    · obtain ⟨fn, tmps, assign, body, hy, hR⟩ := hY _ k wr hJs (by rw [List.length_range]; exact hlt)
      have hcx := hbx.cell
      have hkn : 49 * k < len := by have := HNE.out; omega
      have hsl := slice_part R len cap k hkn hcap
      have hmn : min ((k : Int) * 49 + 49) (len : Int) = ((min (49 * k + 49) len : Nat) : Int) := by omega
      dsimp only [encP] at hy
      generalize hM : min (49 * k + 49) len = M at *
      clear hM
      gi_wp2
      refine ⟨fun h => (by cases h), ?_⟩
      refine hR.mono ?_
      rintro e W3 (⟨rfl, hJ3, hk3⟩ | ⟨rfl, hJx3⟩)
      · have hb3 : Boxed W3 Bs 35 (.slice (some R) len cap) := hk3.trans hbx
        gi_wp2
        go_roundw
        case rel => exact ⟨k + 1, by omega, by go_num, by rw [List.range_succ]; exact hJ3, hb3⟩
        case measure => simp [intOf]; omega
      · gi_wp2
        refine bodyPost_ret (results_none rfl _ _ _) rfl ?_
        exact ⟨⟨_, rfl⟩, .inr ⟨_, ⟨k + 1, by omega, by rw [List.range_succ]⟩, hJx3⟩⟩
    · obtain rfl : k = N := by omega
      gi_wp2
      go_end0
      exact ⟨⟨_, rfl⟩, .inl ⟨_, rfl, hJs⟩⟩
end Go.Proofs.Ytmcbmbcfgefocaa

/- Cells one behind the other; a list's own row of them. -/
namespace Go.Proofs.Ytmcbmbcfgefocaa
open Go.RowKit
set_option linter.unusedSimpArgs false
set_option linter.unusedVariables false

/-- A cell's parts. -/
structure CellD where
  g : Nat
  s : Nat
  p : Int
  q : Int
  A : Option Addr
  n : Nat
  c : Nat
  f : Nat → Nat
def CellD.good (x : CellD) : Prop := x.g < 4294967296 ∧ x.s < 4294967296 ∧ -9223372036854775808 ≤ x.p ∧ x.p ≤ 9223372036854775807 ∧ -9223372036854775808 ≤ x.q ∧ x.q ≤ 9223372036854775807 ∧ x.n ≤ x.c ∧ x.n ≤ 9223372036854775807 ∧ (∀ j, j < x.n → x.f j < 256) ∧ (x.A = none → x.n = 0 ∧ x.c = 0)
abbrev CellD.val (x : CellD) : Value := cellV x.g x.s x.p x.q x.A x.n x.c
/-- The cell at an address. -/
def CellAt (w : World) (a : Addr) (x : CellD) : Prop :=
  a.block < w.heap.size ∧ w.cell? a = some (.int .u32 (x.g : Nat)) ∧ w.cell? (a.add 1) = some (.int .u32 (x.s : Nat)) ∧ w.cell? (a.add 2) = some (.int .i64 x.p) ∧ w.cell? (a.add 3) = some (.int .i64 x.q) ∧ w.cell? (a.add 4) = some (.slice x.A x.n x.c) ∧
  Rd .u8 w x.A x.n x.f ∧ x.good
def CellsAt (w : World) (A : Option Addr) (n : Nat) (X : Nat → CellD) : Prop := ∀ i, i < n → ∃ ad, A = some ad ∧ CellAt w (ad.add (i * 5)) (X i)
theorem CellAt.keep {w w' : World} {a : Addr} {x : CellD} (h : CellAt w a x) (hb : Below w.heap.size w w') : CellAt w' a x := by
  obtain ⟨h0, h1, h2, h3, h4, h5, h6, h7⟩ := h
  have k : ∀ j v, w.cell? (a.add j) = some v → w'.cell? (a.add j) = some v := fun j v hc => (hb.cell (p := a.add j) (by rw [add_block]; exact h0)).trans hc
  exact ⟨Nat.lt_of_lt_of_le h0 hb.size, (hb.cell h0).trans h1, k _ _ h2, k _ _ h3, k _ _ h4, k _ _ h5, h6.below hb, h7⟩
theorem CellsAt.keep {w w' : World} {A : Option Addr} {n : Nat} {X : Nat → CellD} (h : CellsAt w A n X) (hb : Below w.heap.size w w') : CellsAt w' A n X := fun i hi => by
  obtain ⟨ad, e, ha⟩ := h i hi
  exact ⟨ad, e, ha.keep hb⟩
theorem CellsAt.at_ {w : World} {ad : Addr} {n : Nat} {X : Nat → CellD} (h : CellsAt w (some ad) n X) {i : Nat} (hi : i < n) : CellAt w (ad.add (i * 5)) (X i) := by
  obtain ⟨ad', e, ha⟩ := h i hi
  injection e with e
  subst e
  exact ha
/-- A cell's values in a row. -/
def cellL (x : CellD) : List Value := [.int .u32 (x.g : Nat), .int .u32 (x.s : Nat), .int .i64 x.p, .int .i64 x.q, .slice x.A x.n x.c]
def rowL (X : Nat → CellD) (k : Nat) : List Value := (List.range k).flatMap fun i => cellL (X i)
theorem rowL_succ (X : Nat → CellD) (k : Nat) : rowL X (k + 1) = rowL X k ++ cellL (X k) := by
  unfold rowL
  rw [List.range_succ, List.flatMap_append]
  simp
theorem rowL_len (X : Nat → CellD) : ∀ k, (rowL X k).length = k * 5
  | 0 => rfl
  | k + 1 => by rw [rowL_succ, List.length_append, rowL_len X k]; simp [cellL]; omega
theorem rowL_get (X : Nat → CellD) {i j : Nat} (hj : j < 5) : ∀ k, i < k → (rowL X k)[i * 5 + j]? = (cellL (X i))[j]?
  | 0, h => absurd h (by omega)
  | k + 1, h => by
    rw [rowL_succ]
    by_cases hk : i < k
    · rw [List.getElem?_append_left (by rw [rowL_len]; omega)]
      exact rowL_get X hj k hk
    · obtain rfl : i = k := by omega
      rw [List.getElem?_append_right (by rw [rowL_len]; omega), rowL_len, Nat.add_sub_cancel_left]
/-- A list of cells of one's own. -/
def OwnC (w : World) (base : Nat) (v : Value) (n : Nat) (X : Nat → CellD) : Prop := w.ownsRow base 106 5 v n (rowL X n)
theorem OwnC.at_ {w : World} {base : Nat} {A : Option Addr} {n c : Nat} {X : Nat → CellD} (h : OwnC w base (.slice A n c) n X) (hr : ∀ i, i < n → Rd .u8 w (X i).A (X i).n (X i).f) (hg : ∀ i, i < n → (X i).good) : CellsAt w A n X := fun i hi => by
  have hh := h
  rcases h.2 with ⟨_, h0⟩ | ⟨g, cap, cur, hv, _, hgb, _⟩
  · omega
  · injection hv with hA _ hc
    subst hA
    subst hc
    have cl : ∀ j, j < 5 → w.cell? ⟨g, i * 5 + j, none⟩ = (cellL (X i))[j]? := fun j hj => by
      have := World.ownsRow.cellAt (g := g) (cap := c) hh (i * 5 + j) (by omega)
      rw [this]
      exact rowL_get X hj n hi
    have hlt : g < w.heap.size := (Array.getElem?_eq_some_iff.1 hgb).1
    refine ⟨⟨g, 0, none⟩, rfl, ?_, ?_, ?_, ?_, ?_, ?_, hr i hi, hg i hi⟩
    · rw [add_mk]; exact hlt
    · rw [add_mk, Nat.zero_add]; exact cl 0 (by omega)
    · rw [add_mk, add_mk, Nat.zero_add]; exact cl 1 (by omega)
    · rw [add_mk, add_mk, Nat.zero_add]; exact cl 2 (by omega)
    · rw [add_mk, add_mk, Nat.zero_add]; exact cl 3 (by omega)
    · rw [add_mk, add_mk, Nat.zero_add]; exact cl 4 (by omega)
/-- The i-th cell of a record. -/
def PartOf (g s n : Nat) (f : Nat → Nat) (i : Nat) (x : CellD) : Prop := x.g = g ∧ x.s = s ∧ x.p = (i : Nat) ∧ x.q = (needF n : Nat) ∧ x.n = min (49 * i + 49) n - 49 * i ∧ ∀ j, j < x.n → x.f j = f (49 * i + j)
/-- The same, and of what types the blocks are. -/
def SplitPostT (w w' : World) (e : Ending) (g s n : Nat) (f : Nat → Nat) : Prop :=
  ((needF n = 0 ∧ e = .returned (.tuple #[.slice none 0 0, .int .i64 1])) ∨
   (needF n ≠ 0 ∧ ∃ ad c X, e = .returned (.tuple #[.slice (some ad) (needF n) c, .int .i64 0]) ∧ needF n ≤ c ∧ CellsAt w' (some ad) (needF n) X ∧ (∀ i, i < needF n → PartOf g s n f i (X i)) ∧
    (∃ cs m, w'.heap[ad.block]? = some (.cells cs 106 m)) ∧ ∀ i, i < needF n → Typ8 w' (.slice (X i).A (X i).n (X i).c))) ∧ Below w.heap.size w w'
theorem need_few (n : Nat) : needF n ≤ 8 := by unfold needF; split <;> omega
theorem part_len {g s n : Nat} {f : Nat → Nat} {i : Nat} {x : CellD} (h : PartOf g s n f i x) (hi : i < needF n) : 1 ≤ x.n ∧ x.n ≤ 49 ∧ (i + 1 < needF n → x.n = 49) ∧ 49 * i < n ∧ 49 * i + x.n ≤ n := by
  obtain ⟨_, _, _, _, h5, _⟩ := h
  unfold needF at hi ⊢
  split at hi
  · omega
  · rw [if_neg (by assumption)]
    omega
theorem part_may {g s n : Nat} {f : Nat → Nat} {i : Nat} {x : CellD} (h : PartOf g s n f i x) (hi : i < needF n) : mayP x.p x.q x.n := by
  have h1 := part_len h hi
  have h2 := need_few n
  obtain ⟨_, _, h3, h4, _, _⟩ := h
  unfold mayP
  rw [h3, h4]
  by_cases hl : i + 1 < needF n
  · have := h1.2.2.1 hl; omega
  · omega
end Go.Proofs.Ytmcbmbcfgefocaa
