/- A list of cells: appended to, changed. -/
import Derived.Test.YtmedmeabjlmggaaKq
import Derived.Test.YtmedmeabjlmggaaVr
import Derived.Deep.RegionLaw
namespace Go.Proofs.Ytmedmeabjlmggaa
open Go.RowKit
set_option linter.unusedSimpArgs false
set_option linter.unusedVariables false

theorem CellsAt.row {w : World} {ad : Addr} {n : Nat} {X : Nat → CellD} (h : CellsAt w (some ad) n X) : ∀ (j : Nat) (u : Value), (rowL X n)[j]? = some u → w.cell? (ad.add j) = some u := fun j u hu => by
  have hj : j < n * 5 := by
    rcases Nat.lt_or_ge j (n * 5) with h1 | h1
    · exact h1
    · rw [List.getElem?_eq_none (by rw [rowL_len]; exact h1)] at hu; cases hu
  have e : j = j / 5 * 5 + j % 5 := by omega
  have hi : j / 5 < n := by omega
  have hr : j % 5 < 5 := by omega
  generalize j / 5 = i at *
  generalize j % 5 = r at *
  subst e
  rw [rowL_get X hr n hi] at hu
  obtain ⟨p0, p1, p2, p3, p4, p5, _⟩ := h.at_ hi
  rw [← add_add]
  have : r = 0 ∨ r = 1 ∨ r = 2 ∨ r = 3 ∨ r = 4 := by omega
  rcases this with rfl | rfl | rfl | rfl | rfl <;> simp [cellL] at hu <;> subst hu
  · exact p1
  · exact p2
  · exact p3
  · exact p4
  · exact p5
theorem rowL_one (X : Nat → CellD) (n : Nat) : ∀ u ∈ rowL X n, u.oneCell' = true := fun u hu => by
  simp only [rowL, List.mem_flatMap] at hu
  obtain ⟨i, _, h⟩ := hu
  exact cellL_one _ u h
theorem ownC_none (w : World) (X : Nat → CellD) : OwnC (w.alloc (.cells #[] 62)) w.heap.size (.slice (some ⟨w.heap.size, 0, none⟩) 0 0) 0 X :=
  ⟨rfl, .inr ⟨w.heap.size, 0, #[], rfl, Nat.le_refl _, heap_alloc_new w _, Nat.le_refl _, by simp only [maxLen]; omega, rfl, rfl⟩⟩
/-- A list of cells behind the cells of another. -/
def appX (X : Nat → CellD) (n : Nat) (Y : Nat → CellD) : Nat → CellD := fun i => if i < n then X i else Y (i - n)
theorem rowL_congr {X Y : Nat → CellD} : ∀ n, (∀ i, i < n → X i = Y i) → rowL X n = rowL Y n
  | 0, _ => rfl
  | n + 1, h => by rw [rowL_succ, rowL_succ, rowL_congr n (fun i hi => h i (by omega)), h n (by omega)]
theorem rowL_app (X Y : Nat → CellD) (n : Nat) : ∀ m, rowL (appX X n Y) (n + m) = rowL X n ++ rowL Y m
  | 0 => by
    rw [Nat.add_zero, show rowL Y 0 = [] from rfl, List.append_nil]
    exact rowL_congr n fun i hi => by unfold appX; rw [if_pos hi]
  | m + 1 => by
    rw [← Nat.add_assoc, rowL_succ, rowL_app X Y n m, rowL_succ, List.append_assoc]
    congr 2
    unfold appX
    rw [if_neg (by omega), Nat.add_sub_cancel_left]
theorem OwnC.congr {w : World} {base n : Nat} {v : Value} {X Y : Nat → CellD} (h : OwnC w base v n X) (he : ∀ i, i < n → X i = Y i) : OwnC w base v n Y := by
  unfold OwnC at *
  rw [← rowL_congr n he]
  exact h
theorem OwnC.below {w w' : World} {base n : Nat} {v : Value} {X : Nat → CellD} (h : OwnC w base v n X) (hb : Below w.heap.size w w') : OwnC w' base v n X := own_below h hb
theorem OwnC.form {w : World} {base n : Nat} {v : Value} {X : Nat → CellD} (h : OwnC w base v n X) (hn : 0 < n) : ∃ g c, v = .slice (some ⟨g, 0, none⟩) n c ∧ base ≤ g ∧ n ≤ c := by
  rcases h.2 with ⟨_, h0⟩ | ⟨g, c, cur, rfl, hb, _, hc, _⟩
  · omega
  · exact ⟨g, c, rfl, hb, hc⟩
theorem cell48 : (Try.prog.info? 62).map (fun i => (i.zero, i.size, i.bytes)) = some (some (cellV 0 0 0 0 none 0 0), 5, 48) := cell_info
/-- append of a list of cells to one of one's own. -/
theorem wpList_app_cells {P : Program} (hP : P = Try.prog) {w : World} {ops : Array Oper} {rest : List Oper} {o : Oper} {a : Act} {Q : Exit → Act → World → Prop} (hgd : o.guard = none) (s x : Operand)
    (ho : o.op = .call { callee := .builtin .append, args := #[s, x], argTypes := #[25, 25] })
    (base : Nat) (v : Value) (n : Nat) (X : Nat → CellD) (hs : a.eval s = v) (hown : OwnC w base v n X) (ad : Addr) (m c : Nat) (Y : Nat → CellD) (hx : a.eval x = .slice (some ad) m c) (hY : CellsAt w (some ad) m Y) (hnm : n + m ≤ 1000000) (hbase : base ≤ w.heap.size)
    (h : ∀ v' w', OwnC w' base v' (n + m) (appX X n Y) → Below base w w' → w.heap.size ≤ w'.heap.size → wpList P ops Q rest (a.put o.dst v') w') : wpList P ops Q (o :: rest) a w := by
  subst hP
  refine wpList_append_at hgd s x 25 ho base 62 _ 5 48 Try.underlying25 cell48 rfl (by omega) v n (rowL X n) hs hown ad m c (rowL Y m) hx (rowL_len Y m) hY.row (rowL_one Y m) (by simp only [maxLen]; omega) (by omega) hbase ?_
  intro v' w' h1 h2 h3
  refine h v' w' ?_ ((Below.refl _ _).grown h2 hbase fun k hk => (World.ownsRow.lt hown k hk).1) h2.size
  unfold OwnC
  rw [rowL_app]
  exact h1
def updX (X : Nat → CellD) (i : Nat) (x : CellD) : Nat → CellD := fun j => if j = i then x else X j
theorem rowL_upd {X : Nat → CellD} {i n : Nat} (hi : i < n) (x : CellD) : (((((rowL X n).set (i * 5) (.int .u32 (x.g : Nat))).set (i * 5 + 1) (.int .u32 (x.s : Nat))).set (i * 5 + 2) (.int .i64 x.p)).set (i * 5 + 3) (.int .i64 x.q)).set (i * 5 + 4) (.slice x.A x.n x.c) = rowL (updX X i x) n := by
  apply List.ext_getElem?
  intro j
  by_cases hj : j < n * 5
  · have e : j = j / 5 * 5 + j % 5 := by omega
    have hq : j / 5 < n := by omega
    have hr : j % 5 < 5 := by omega
    generalize j / 5 = q at *
    generalize j % 5 = r at *
    subst e
    rw [rowL_get _ hr n hq]
    have hlen : (rowL X n).length = n * 5 := rowL_len X n
    by_cases hqi : q = i
    · subst hqi
      unfold updX
      rw [if_pos rfl]
      have : r = 0 ∨ r = 1 ∨ r = 2 ∨ r = 3 ∨ r = 4 := by omega
      rcases this with rfl | rfl | rfl | rfl | rfl <;> simp [cellL, List.getElem?_set, hlen] <;> omega
    · rw [List.getElem?_set_ne (by omega), List.getElem?_set_ne (by omega), List.getElem?_set_ne (by omega), List.getElem?_set_ne (by omega), List.getElem?_set_ne (by omega), rowL_get _ hr n hq]
      unfold updX
      rw [if_neg hqi]
  · rw [List.getElem?_eq_none (by simp [rowL_len]; omega), List.getElem?_eq_none (by rw [rowL_len]; omega)]
theorem OwnC.set5 {w : World} {base g n c : Nat} {X : Nat → CellD} (h : OwnC w base (.slice (some ⟨g, 0, none⟩) n c) n X) {i : Nat} (hi : i < n) (x : CellD) :
    OwnC (((((w.setCell ⟨g, i * 5, none⟩ (.int .u32 (x.g : Nat))).setCell ⟨g, i * 5 + 1, none⟩ (.int .u32 (x.s : Nat))).setCell ⟨g, i * 5 + 2, none⟩ (.int .i64 x.p)).setCell ⟨g, i * 5 + 3, none⟩ (.int .i64 x.q)).setCell ⟨g, i * 5 + 4, none⟩ (.slice x.A x.n x.c)) base (.slice (some ⟨g, 0, none⟩) n c) n (updX X i x) := by
  unfold OwnC at *
  rw [← rowL_upd hi x]
  have h1 := (World.ownsRow.stored h (i * 5) (.int .u32 (x.g : Nat))).1
  have h2 := (World.ownsRow.stored h1 (i * 5 + 1) (.int .u32 (x.s : Nat))).1
  have h3 := (World.ownsRow.stored h2 (i * 5 + 2) (.int .i64 x.p)).1
  have h4 := (World.ownsRow.stored h3 (i * 5 + 3) (.int .i64 x.q)).1
  exact (World.ownsRow.stored h4 (i * 5 + 4) (.slice x.A x.n x.c)).1
end Go.Proofs.Ytmedmeabjlmggaa
