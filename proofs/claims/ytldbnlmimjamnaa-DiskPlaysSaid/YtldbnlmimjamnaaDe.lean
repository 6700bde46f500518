/- Contracts: slices.Clone of rows, New. -/
import Derived.Test.YtldbnlmimjamnaaDd
namespace Go.Proofs.Ytldbnlmimjamnaa
open Go.RowKit

def ClonePost (w w' : World) (e : Ending) (n : Nat) (V : Nat → Value) : Prop :=
  ∃ g c V', e = .returned (.slice (some ⟨g, 0, none⟩) n c) ∧ w.heap.size ≤ g ∧ n ≤ c ∧ w'.rowIs g 31 c V' ∧ (∀ j, j < n → V' j = V j) ∧ Below w.heap.size w w'
theorem own_none35 (w : World) : (w.alloc (.cells #[] 31)).ownsRow w.heap.size 31 1 (.slice (some ⟨w.heap.size, 0, none⟩) 0 0) 0 [] :=
  World.ownsRow_lit w _ 0 (Nat.le_refl _) (by simp only [maxLen]; omega) rfl
set_option maxHeartbeats 1000000 in
theorem cloneR_any (g sz n c : Nat) (V : Nat → Value) (w : World) (hr : w.rowIs g 31 sz V) (h1 : 1 ≤ n) (h2 : n ≤ sz) (h3 : n ≤ 512) (hv : ∀ j, j < n → (V j).oneCell' = true) :
    Calls Try.prog 26 #[.slice (some ⟨g, 0, none⟩) n c] w fun e w' => ClonePost w w' e n V := by
  have HR := Lib.hid hr
  have HS := Lib.hid (show ∀ j u, ((List.range n).map V)[j]? = some u → (w.alloc (.cells #[] 31)).cell? ((⟨g, 0, none⟩ : Addr).add j) = some u from fun j u hu => by
    obtain ⟨hj, rfl⟩ := rg_get hu
    rw [add_mk, Nat.zero_add]
    exact (hr.alloc _).cell (by omega))
  have HV := Lib.hid (show ∀ u ∈ (List.range n).map V, u.oneCell' = true from fun u hu => by
    simp at hu
    obtain ⟨j, hj, rfl⟩ := hu
    exact hv j hj)
  have hown := own_none35 w
  have hnil := Lib.run_eql_slice_nil (P := Try.prog) w 35 31 (some ⟨g, 0, none⟩) n c 0 0 Try.underlying35
  clear hr hv
  go_enter Try.func26, Try.ntmps26
  go_wp2_with (at_builtin; refine wpList_append_at rfl _ _ 35 rfl w.heap.size 31 (.slice none 0 0) 1 24 Try.underlying35 rows_info rfl (by omega) _ 0 [] rfl hown ⟨g, 0, none⟩ n c ((List.range n).map V) rfl (by simp) HS.out HV.out (by simp only [maxLen]; omega) (by omega) (by simp) ?_; intro v2 w5 hown2 hg2 hat2)
  clear hnil
  have HO := Lib.hid hown2
  have HB := Lib.hid ((below_new w (.cells #[] 31)).grown hg2 (by simp) fun k hk => by injection hk with hk; subst hk; exact Nat.le_refl _)
  clear hown hown2 hg2 hat2
  go_wp2
  go_ret
  have h2' := HO.out
  rw [Nat.zero_add, List.nil_append] at h2'
  obtain ⟨g', cap, V', rfl, e1, e2, e3, e4, e5⟩ := own_row h2' (by omega)
  exact ⟨g', cap, V', rfl, e1, e2, e4, fun j hj => by
    have := e5 j hj
    rw [List.getElem?_map, List.getElem?_range hj] at this
    simpa using this.symm, HB.out⟩

def DS.new (n : Nat) : DS := ⟨n, fun _ => some fun _ => 0, [], false, 0⟩
def DskAt (F : Nat → Prop) (w : World) (gd : Nat) (S : DS) : Prop := ∃ gt gs ct cs vp xs VT VS, Dk F w gd gt gs ct cs vp xs VT VS S
def NewPost (w w' : World) (e : Ending) (n : Nat) : Prop :=
  ∃ gd F, e = .returned (.tuple #[.pointer (some ⟨gd, 0, none⟩), .int .i64 0]) ∧ DskAt F w' gd (DS.new n) ∧ (∀ k, F k → w.heap.size ≤ k) ∧ Below w.heap.size w w'
theorem new_disk {w w1 w2 w3 : World} {o : Obj} {n gt gs cs : Nat} {VS : Nat → Value} (h1 : 1 ≤ n) (h2 : n ≤ 512) (hrow1 : w1.rowIs w.heap.size 5 64 fun _ => .int .u8 0) (hb1 : Below w.heap.size w w1) (hs1 : w1.heap.size = w.heap.size + 1)
    (hgt : (w1.alloc o).heap.size ≤ gt) (hrow2 : w2.rowIs gt 31 n fun _ => .slice (some ⟨w.heap.size, 0, none⟩) 64 64) (hb2 : Below (w1.alloc o).heap.size (w1.alloc o) w2)
    (hgs : w2.heap.size ≤ gs) (hcs : n ≤ cs) (hrow3 : w3.rowIs gs 31 cs VS) (hVS : ∀ j, j < n → VS j = .slice (some ⟨w.heap.size, 0, none⟩) 64 64) (hb3 : Below w2.heap.size w2 w3) :
    NewPost w (w3.alloc (.cells #[.slice (some ⟨gt, 0, none⟩) n n, .slice (some ⟨gs, 0, none⟩) n cs, .slice none 0 0, .bool false, .int .i64 0] 63)) (.returned (.tuple #[.pointer (some ⟨w3.heap.size, 0, none⟩), .int .i64 0])) n := by
  rw [World.size_alloc, hs1] at hgt
  have z1 : (w1.alloc o).heap.size = w.heap.size + 1 + 1 := by rw [World.size_alloc, hs1]
  have z2 := hb2.size
  have z3 := hb3.size
  have z4 := hrow2.lt
  have z5 := hrow3.lt
  have hbA : Below w.heap.size w w3 := ((hb1.alloc (by omega) o).trans (hb2.mono (by omega))).trans (hb3.mono (by omega))
  have hr3 : w3.rowIs w.heap.size 5 64 fun _ => .int .u8 0 := ((hrow1.alloc o).of_block (hb2.block _ (by omega))).of_block (hb3.block _ (by omega))
  have hsec : ∀ R : Nat → Prop, R w.heap.size → SecO R (w3.alloc (.cells #[.slice (some ⟨gt, 0, none⟩) n n, .slice (some ⟨gs, 0, none⟩) n cs, .slice none 0 0, .bool false, .int .i64 0] 63)) (.slice (some ⟨w.heap.size, 0, none⟩) 64 64) (some fun _ => 0) := fun R hR =>
    ⟨_, 0, 64, rfl, Nat.le_refl _, hR, fun j hj => by rw [Nat.zero_add]; exact (hr3.alloc _).cell hj, fun _ _ => (by decide : (0 : Nat) < 256)⟩
  refine ⟨w3.heap.size, fun k => w.heap.size ≤ k ∧ k < w3.heap.size + 1, rfl, ⟨gt, gs, n, cs, .slice none 0 0, [], fun _ => .slice (some ⟨w.heap.size, 0, none⟩) 64 64, VS, ?_⟩, fun k hk => hk.1, hbA.alloc (by omega) _⟩
  have hR : Rw (fun k => w.heap.size ≤ k ∧ k < w3.heap.size + 1) w3.heap.size gt gs (.slice none 0 0) w.heap.size := ⟨⟨Nat.le_refl _, by omega⟩, by omega, by omega, by omega, by simp [Value.ownBlock]⟩
  exact {
    box := World.rowIs_alloc w3 _ _ _ fun i hi => by
      simp at hi
      rcases (by omega : i = 0 ∨ i = 1 ∨ i = 2 ∨ i = 3 ∨ i = 4) with rfl | rfl | rfl | rfl | rfl <;> rfl
    th := (hrow2.of_block (hb3.block _ z4)).alloc _
    se := hrow3.alloc _
    pe := World.ownsRow_nil _ _ _ _
    hT := fun i _ => hsec _ hR
    hS := fun i hi => by rw [hVS i hi]; exact hsec _ hR
    hP := rfl
    n1 := h1
    n2 := h2
    nt := Nat.le_refl _
    ns := hcs
    lf := by simp [DS.new]
    dt := by omega
    ds := by omega
    ts := by omega
    px := fun k hk => by simp [Value.ownBlock] at hk
    fd := ⟨by omega, by omega⟩
    ft := ⟨by omega, by omega⟩
    fs := ⟨by omega, by omega⟩
    lt := fun k hk => by rw [World.size_alloc]; exact hk.2 }
theorem new_bad (n : Int) (w : World) (h : n < 1 ∨ 512 < n) :
    Calls Try.prog 10 #[.int .i64 n] w fun e w' => e = .returned (.tuple #[.pointer none, .int .i64 1]) ∧ w = w' := by
  rcases h with h | h
  · go_enter Try.func10, Try.ntmps10
    go_wp2
    go_ret2
    exact ⟨rfl, rfl⟩
  · have h1 : decide (n < 1) = false := by rw [decide_eq_false_iff_not]; omega
    go_enter Try.func10, Try.ntmps10
    go_wp2
    go_ret2
    exact ⟨rfl, rfl⟩
set_option maxHeartbeats 1000000 in
theorem new_any (n : Nat) (w : World) (h1 : 1 ≤ n) (h2 : n ≤ 512) :
    Calls Try.prog 10 #[.int .i64 (n : Nat)] w fun e w' => NewPost w w' e n := by
  have d1 : decide ((n : Int) < 1) = false := by rw [decide_eq_false_iff_not]; omega
  have d2 : decide (512 < (n : Int)) = false := by rw [decide_eq_false_iff_not]; omega
  have QN := Lib.hid (show ∀ w1 : World, w1.heap.size = w.heap.size + 1 → (w1.alloc (.cells #[.slice (some ⟨w.heap.size, 0, none⟩) 64 64] 31)).cell? ⟨w.heap.size + 1, 0, none⟩ = some (.slice (some ⟨w.heap.size, 0, none⟩) 64 64) from fun w1 e => by rw [← e]; exact cell_one_new _ _ _ 0 _ rfl)
  go_enter Try.func10, Try.ntmps10
  go_wp2_with (first
    | (at_make; refine wpList_make_rowIs rfl _ _ 31 rfl 5 (.int .u8 0) 1 Try.underlying31 u8_info rfl .i64 .i64 _ _ 64 rfl rfl rfl rfl (by omega) (by omega) ?_; intro w1 hrow1 hb1 hs1)
    | (go_at_call 25; refine (repeat_any (w.heap.size + 1) n (.slice (some ⟨w.heap.size, 0, none⟩) 64 64) _ h1 h2 (QN.out _ hs1) rfl).mono ?_; rintro e w2 ⟨gt, rfl, hgt, hrow2, hb2⟩)
    | (go_at_call 26; refine (cloneR_any gt n n n _ _ hrow2 h1 (Nat.le_refl _) h2 (fun _ _ => rfl)).mono ?_; rintro e w3 ⟨gs, cs, VS, rfl, hgs, hcs, hrow3, hVS, hb3⟩))
  go_ret2
  exact new_disk h1 h2 hrow1 hb1 hs1 hgt hrow2 hb2 hgs hcs hrow3 hVS hb3
end Go.Proofs.Ytldbnlmimjamnaa
