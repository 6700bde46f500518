/- Contracts: slices.Clone of rows, New. -/
import Derived.Test.YtmcbmbcfgefocaaPDd
namespace Go.Proofs.Ytmcbmbcfgefocaa
open Go.RowKit

def ClonePostV (w w' : World) (e : Ending) (n : Nat) (V : Nat → Value) : Prop :=
  ∃ g c V', e = .returned (.slice (some ⟨g, 0, none⟩) n c) ∧ w.heap.size ≤ g ∧ n ≤ c ∧ w'.rowIs g 35 c V' ∧ (∀ j, j < n → V' j = V j) ∧ Below w.heap.size w w'
theorem own_none35 (w : World) : (w.alloc (.cells #[] 35)).ownsRow w.heap.size 35 1 (.slice (some ⟨w.heap.size, 0, none⟩) 0 0) 0 [] :=
  World.ownsRow_lit w _ 0 (Nat.le_refl _) (by simp only [maxLen]; omega) rfl
set_option maxRecDepth 100000 in
set_option maxHeartbeats 1000000 in
theorem cloneR_any (g sz n c : Nat) (V : Nat → Value) (w : World) (hr : w.rowIs g 35 sz V) (h1 : 1 ≤ n) (h2 : n ≤ sz) (h3 : n ≤ 512) (hv : ∀ j, j < n → (V j).oneCell' = true) :
    Calls Try.prog 22 #[.slice (some ⟨g, 0, none⟩) n c] w fun e w' => ClonePostV w w' e n V := by
  have HR := Lib.hid hr
  have HS := Lib.hid (show ∀ j u, ((List.range n).map V)[j]? = some u → (w.alloc (.cells #[] 35)).cell? ((⟨g, 0, none⟩ : Addr).add j) = some u from fun j u hu => by
    obtain ⟨hj, rfl⟩ := rg_get hu
    rw [add_mk, Nat.zero_add]
    exact (hr.alloc _).cell (by omega))
  have HV := Lib.hid (show ∀ u ∈ (List.range n).map V, u.oneCell' = true from fun u hu => by
    simp at hu
    obtain ⟨j, hj, rfl⟩ := hu
    exact hv j hj)
  have hown := own_none35 w
  have hnil := Lib.run_eql_slice_nil (P := Try.prog) w 33 35 (some ⟨g, 0, none⟩) n c 0 0 Try.underlying33
  clear hr hv
  go_enter Try.func22, Try.ntmps22
  go_wp2_with (at_builtin; refine wpList_append_at rfl _ _ 33 rfl w.heap.size 35 (.slice none 0 0) 1 24 Try.underlying33 rows_info rfl (by omega) _ 0 [] rfl hown ⟨g, 0, none⟩ n c ((List.range n).map V) rfl (by simp) HS.out HV.out (by simp only [maxLen]; omega) (by omega) (by simp) ?_; intro v2 w5 hown2 hg2 hat2)
  clear hnil
  have HO := Lib.hid hown2
  have HB := Lib.hid ((below_new w (.cells #[] 35)).grown hg2 (by simp) fun k hk => by injection hk with hk; subst hk; exact Nat.le_refl _)
  clear hown hown2 hg2 hat2
  go_wp2
  go_ret
  have h2' := HO.out
  rw [Nat.zero_add, List.nil_append] at h2'
  obtain ⟨g', cap, V', rfl, e1, e2, e3, e4, e5⟩ := own_row h2' (by omega)
  exact ⟨g', cap, V', rfl, e1, e2, e4, fun j hj => by
    have := e5 j hj
    rw [List.getElem?_map, List.getElem?_range hj] at this
    simpa using this.symm, HB.out⟩

def DS.new (n : Nat) : DS := ⟨n, fun _ => some fun _ => 0, [], false, 0⟩
def DskAt (F : Nat → Prop) (w : World) (gd : Nat) (S : DS) : Prop := ∃ gt gs ct cs vp xs VT VS, Dk F w gd gt gs ct cs vp xs VT VS S
def NewPost (w w' : World) (e : Ending) (n : Nat) : Prop :=
  ∃ gd F, e = .returned (.tuple #[.pointer (some ⟨gd, 0, none⟩), .int .i64 0]) ∧ DskAt F w' gd (DS.new n) ∧ (∀ k, F k → w.heap.size ≤ k) ∧ Below w.heap.size w w'
theorem new_disk {w w1 w2 w3 : World} {o : Obj} {n gt gs cs : Nat} {VS : Nat → Value} (h1 : 1 ≤ n) (h2 : n ≤ 512) (hrow1 : w1.rowIs w.heap.size 5 64 fun _ => .int .u8 0) (hb1 : Below w.heap.size w w1) (hs1 : w1.heap.size = w.heap.size + 1)
    (hgt : (w1.alloc o).heap.size ≤ gt) (hrow2 : w2.rowIs gt 35 n fun _ => .slice (some ⟨w.heap.size, 0, none⟩) 64 64) (hb2 : Below (w1.alloc o).heap.size (w1.alloc o) w2)
    (hgs : w2.heap.size ≤ gs) (hcs : n ≤ cs) (hrow3 : w3.rowIs gs 35 cs VS) (hVS : ∀ j, j < n → VS j = .slice (some ⟨w.heap.size, 0, none⟩) 64 64) (hb3 : Below w2.heap.size w2 w3) :
    NewPost w (w3.alloc (.cells #[.slice (some ⟨gt, 0, none⟩) n n, .slice (some ⟨gs, 0, none⟩) n cs, .slice none 0 0, .bool false, .int .i64 0] 53)) (.returned (.tuple #[.pointer (some ⟨w3.heap.size, 0, none⟩), .int .i64 0])) n := by
  rw [World.size_alloc, hs1] at hgt
  have z1 : (w1.alloc o).heap.size = w.heap.size + 1 + 1 := by rw [World.size_alloc, hs1]
  have z2 := hb2.size
  have z3 := hb3.size
  have z4 := hrow2.lt
  have z5 := hrow3.lt
  have hbA : Below w.heap.size w w3 := ((hb1.alloc (by omega) o).trans (hb2.mono (by omega))).trans (hb3.mono (by omega))
  have hr3 : w3.rowIs w.heap.size 5 64 fun _ => .int .u8 0 := ((hrow1.alloc o).of_block (hb2.block _ (by omega))).of_block (hb3.block _ (by omega))
  have hsec : ∀ R : Nat → Prop, R w.heap.size → SecO R (w3.alloc (.cells #[.slice (some ⟨gt, 0, none⟩) n n, .slice (some ⟨gs, 0, none⟩) n cs, .slice none 0 0, .bool false, .int .i64 0] 53)) (.slice (some ⟨w.heap.size, 0, none⟩) 64 64) (some fun _ => 0) := fun R hR =>
    ⟨_, 0, 64, rfl, Nat.le_refl _, hR, fun j hj => by rw [Nat.zero_add]; exact (hr3.alloc _).cell hj, fun _ _ => (by decide : (0 : Nat) < 256)⟩
  refine ⟨w3.heap.size, fun k => w.heap.size ≤ k ∧ k < w3.heap.size + 1, rfl, ⟨gt, gs, n, cs, .slice none 0 0, [], fun _ => .slice (some ⟨w.heap.size, 0, none⟩) 64 64, VS, ?_⟩, fun k hk => hk.1, hbA.alloc (by omega) _⟩
  have hR : Rw (fun k => w.heap.size ≤ k ∧ k < w3.heap.size + 1) w3.heap.size gt gs (.slice none 0 0) w.heap.size := ⟨⟨Nat.le_refl _, by omega⟩, by omega, by omega, by omega, by simp [Value.ownBlock]⟩
  exact {
    box := World.rowIs_alloc w3 _ _ _ fun i hi => by
      simp at hi
      rcases (by omega : i = 0 ∨ i = 1 ∨ i = 2 ∨ i = 3 ∨ i = 4) with rfl | rfl | rfl | rfl | rfl <;> rfl
    th := (hrow2.of_block (hb3.block _ z4)).alloc _
    se := hrow3.alloc _
    pe := World.ownsRow_nil _ _ _ _
    hT := fun i _ => hsec _ hR
    hS := fun i hi => by rw [hVS i hi]; exact hsec _ hR
    hP := rfl
    n1 := h1
    n2 := h2
    nt := Nat.le_refl _
    ns := hcs
    lf := by simp [DS.new]
    dt := by omega
    ds := by omega
    ts := by omega
    px := fun k hk => by simp [Value.ownBlock] at hk
    fd := ⟨by omega, by omega⟩
    ft := ⟨by omega, by omega⟩
    fs := ⟨by omega, by omega⟩
    lt := fun k hk => by rw [World.size_alloc]; exact hk.2 }
set_option maxRecDepth 100000 in
set_option maxHeartbeats 1000000 in
theorem new_any (n : Nat) (w : World) (h1 : 1 ≤ n) (h2 : n ≤ 512) :
    Calls Try.prog 8 #[.int .i64 (n : Nat)] w fun e w' => NewPost w w' e n := by
  have d1 : decide ((n : Int) < 1) = false := by rw [decide_eq_false_iff_not]; omega
  have d2 : decide (512 < (n : Int)) = false := by rw [decide_eq_false_iff_not]; omega
  have QN := Lib.hid (show ∀ w1 : World, w1.heap.size = w.heap.size + 1 → (w1.alloc (.cells #[.slice (some ⟨w.heap.size, 0, none⟩) 64 64] 35)).cell? ⟨w.heap.size + 1, 0, none⟩ = some (.slice (some ⟨w.heap.size, 0, none⟩) 64 64) from fun w1 e => by rw [← e]; exact cell_one_new _ _ _ 0 _ rfl)
  go_enter Try.func8, Try.ntmps8
  go_wp2_with (first
    | (at_make; refine wpList_make_rowIs rfl _ _ 35 rfl 5 (.int .u8 0) 1 Try.underlying35 u8_info rfl .i64 .i64 _ _ 64 rfl rfl rfl rfl (by omega) (by omega) ?_; intro w1 hrow1 hb1 hs1)
    | (go_at_call 21; refine (repeat_any (w.heap.size + 1) n (.slice (some ⟨w.heap.size, 0, none⟩) 64 64) _ h1 h2 (QN.out _ hs1) rfl).mono ?_; rintro e w2 ⟨gt, rfl, hgt, hrow2, hb2⟩)
    | (go_at_call 22; refine (cloneR_any gt n n n _ _ hrow2 h1 (Nat.le_refl _) h2 (fun _ _ => rfl)).mono ?_; rintro e w3 ⟨gs, cs, VS, rfl, hgs, hcs, hrow3, hVS, hb3⟩))
  go_ret2
  exact new_disk h1 h2 hrow1 hb1 hs1 hgt hrow2 hb2 hgs hcs hrow3 hVS hb3
end Go.Proofs.Ytmcbmbcfgefocaa

/- Contracts: Read, Image. -/
namespace Go.Proofs.Ytmcbmbcfgefocaa
open Go.RowKit

/-- What Read says: bytes, a code. -/
def DS.read (S : DS) (i : Int) : Option (Nat → Nat) × Int :=
  if S.gone then (none, 4) else if hasB S.n i then (match S.seen i.toNat with | none => (none, 6) | some f => (some f, 0)) else (none, 1)
def ReadPost (S : DS) (w w' : World) (e : Ending) (i : Int) : Prop :=
  ∃ v, e = .returned (.tuple #[v, .int .i64 (S.read i).2]) ∧ SecO (New w) w' v (S.read i).1 ∧ Below w.heap.size w w'
section
variable {F : Nat → Prop} {w w' : World} {gd gt gs ct cs : Nat} {vp : Value} {xs : List Value} {VT VS : Nat → Value} {S S' : DS}
theorem hasB_true {n : Nat} {i : Int} (h : hasB n i = true) : 0 ≤ i ∧ i < n := by simpa [hasB] using h
theorem row_at {w : World} {g sz : Nat} {t : TypeId} {V : Nat → Value} (h : w.rowIs g t sz V) {i : Int} (h0 : 0 ≤ i) (h1 : i < sz) : w.cell? ⟨g, i.toNat, none⟩ = some (V i.toNat) := h.cell (by omega)

set_option maxRecDepth 100000 in
set_option maxHeartbeats 1000000 in
theorem read_any (h : Dk F w gd gt gs ct cs vp xs VT VS S) (i : Int) :
    Calls Try.prog 67 #[.pointer (some ⟨gd, 0, none⟩), .int .i64 i] w fun e w' => ReadPost S w w' e i := by
  obtain ⟨c0, c1, c2, c3, c4⟩ := dvr h.box
  cases hg : S.gone
  case true =>
    rw [hg] at c3
    have HP := Lib.hid (show ReadPost S w w (.returned (.tuple #[.slice none 0 0, .int .i64 4])) i from ⟨.slice none 0 0, by simp [DS.read, hg], by simp [DS.read, hg, SecO], Below.refl _ _⟩)
    clear h hg
    go_enter Try.func67, Try.ntmps67
    go_wp2
    go_ret2
    exact HP.out
  case false =>
    rw [hg] at c3
    cases hh : hasB S.n i
    case false =>
      have HP := Lib.hid (show ReadPost S w w (.returned (.tuple #[.slice none 0 0, .int .i64 1])) i from ⟨.slice none 0 0, by simp [DS.read, hg, hh], by simp [DS.read, hg, hh, SecO], Below.refl _ _⟩)
      have HH := Lib.hid (has_any h i)
      rw [hh] at HH
      clear h hg hh
      go_enter Try.func67, Try.ntmps67
      go_wp2_with (go_at_call 63; refine HH.out.mono ?_; rintro e w' ⟨rfl, rfl⟩)
      go_ret2
      exact HP.out
    case true =>
      obtain ⟨i0, i1⟩ := hasB_true hh
      have HH := Lib.hid (has_any h i)
      rw [hh] at HH
      have hse := row_at h.se i0 (by have := h.ns; omega)
      have hS := h.hS i.toNat (by omega)
      have hcs := h.ns
      cases hs : S.seen i.toNat with
      | none =>
        rw [hs] at hS
        have hS' : VS i.toNat = .slice none 0 0 := hS
        rw [hS'] at hse
        have HP := Lib.hid (show ReadPost S w w (.returned (.tuple #[.slice none 0 0, .int .i64 6])) i from ⟨.slice none 0 0, by simp [DS.read, hg, hh, hs], by simp [DS.read, hg, hh, hs, SecO], Below.refl _ _⟩)
        have q := Lib.run_eql_slice_nil (P := Try.prog) w 35 5 none 0 0 0 0 Try.underlying35
        clear h hg hh hs hS hS'
        go_enter Try.func67, Try.ntmps67
        go_wp2_with (go_at_call 63; refine HH.out.mono ?_; rintro e w' ⟨rfl, rfl⟩)
        go_ret2
        exact HP.out
      | some f =>
        rw [hs] at hS
        have hS' : Sec (Rw F gd gt gs vp) w (VS i.toNat) f := hS
        have hS2 := hS'
        obtain ⟨g, o, c, hv, _⟩ := hS2
        rw [hv] at hse hS'
        have HC := Lib.hid (clone_sec hS')
        have HP := Lib.hid (show ∀ w' v, Sec (New w) w' v f → Below w.heap.size w w' → ReadPost S w w' (.returned (.tuple #[v, .int .i64 0])) i from fun w' v h1 h2 => ⟨v, by simp [DS.read, hg, hh, hs], by simp only [DS.read, hg, hh, hs]; exact h1, h2⟩)
        have q := Lib.run_eql_slice_nil (P := Try.prog) w 35 5 (some ⟨g, o, none⟩) 64 c 0 0 Try.underlying35
        clear h hg hh hs hS hS' hv
        go_enter Try.func67, Try.ntmps67
        go_wp2_with (first
          | (go_at_call 63; refine HH.out.mono ?_; rintro e w' ⟨rfl, rfl⟩)
          | (go_at_call 39; refine HC.out.mono ?_; rintro e w' ⟨v, rfl, hv, hb⟩))
        go_ret2
        exact HP.out _ _ hv hb

end
end Go.Proofs.Ytmcbmbcfgefocaa

/- Contract: Write. -/
namespace Go.Proofs.Ytmcbmbcfgefocaa
open Go.RowKit

/-- The disk behind an operation: its footprint has grown by new blocks alone. -/
def DPost (F : Nat → Prop) (w w' : World) (gd : Nat) (S : DS) : Prop := ∃ F', DskAt F' w' gd S ∧ Only F w w' ∧ ∀ k, F' k → F k ∨ w.heap.size ≤ k
section
variable {F : Nat → Prop} {w w' : World} {gd gt gs ct cs : Nat} {vp : Value} {xs : List Value} {VT VS : Nat → Value} {S S' : DS}
theorem write_gone (h : Dk F w gd gt gs ct cs vp xs VT VS S) (hg : S.gone = true) (i : Int) (v : Value) :
    Calls Try.prog 49 #[.pointer (some ⟨gd, 0, none⟩), .int .i64 i, v] w fun e w' => e = .returned (.int .i64 4) ∧ w = w' := by
  obtain ⟨c0, c1, c2, c3, c4⟩ := dvr h.box
  rw [hg] at c3
  clear h hg
  go_enter Try.func49, Try.ntmps49
  go_wp2
  go_ret
  exact ⟨rfl, rfl⟩
theorem write_bad (h : Dk F w gd gt gs ct cs vp xs VT VS S) (hg : S.gone = false) (i : Int) (a : Option Addr) (m c : Nat) (hb : hasB S.n i = false ∨ m ≠ 64) :
    Calls Try.prog 49 #[.pointer (some ⟨gd, 0, none⟩), .int .i64 i, .slice a m c] w fun e w' => e = .returned (.int .i64 1) ∧ w = w' := by
  obtain ⟨c0, c1, c2, c3, c4⟩ := dvr h.box
  rw [hg] at c3
  have HH := Lib.hid (has_any h i)
  clear h hg
  cases hh : hasB S.n i
  case false =>
    rw [hh] at HH
    clear hh hb
    go_enter Try.func49, Try.ntmps49
    go_wp2_with (go_at_call 63; refine HH.out.mono ?_; rintro e w' ⟨rfl, rfl⟩)
    go_ret
    exact ⟨rfl, rfl⟩
  case true =>
    have hm : m ≠ 64 := by
      rcases hb with e | e
      · rw [hh] at e; cases e
      · exact e
    have hne : ((m : Int) == 64) = false := by rw [beq_eq_false_iff_ne]; omega
    have hne2 : ((m : Int) != 64) = true := by rw [bne_iff_ne]; omega
    rw [hh] at HH
    clear hh hb hm
    go_enter Try.func49, Try.ntmps49
    go_wp2_with (go_at_call 63; refine HH.out.mono ?_; rintro e w' ⟨rfl, rfl⟩)
    go_ret
    exact ⟨rfl, rfl⟩
theorem write_stop (h : Dk F w gd gt gs ct cs vp xs VT VS S) (hg : S.gone = false) (hk : S.ok = false) (i : Int) (hi : hasB S.n i = true) (a : Option Addr) (c : Nat) :
    Calls Try.prog 49 #[.pointer (some ⟨gd, 0, none⟩), .int .i64 i, .slice a 64 c] w fun e w' => e = .returned (.int .i64 4) ∧ Dk F w' gd gt gs ct cs vp xs VT VS S.begun ∧ Only (· = gd) w w' := by
  obtain ⟨c0, c1, c2, c3, c4⟩ := dvr h.box
  rw [hg] at c3
  have HH := Lib.hid (has_any h i)
  have HG := Lib.hid (begin_any h hg)
  rw [hi] at HH
  rw [hk] at HG
  clear h hg hi hk
  go_enter Try.func49, Try.ntmps49
  go_wp2_with (first
    | (go_at_call 63; refine HH.out.mono ?_; rintro e w' ⟨rfl, rfl⟩)
    | (go_at_call 64; refine HG.out.mono ?_; rintro e w' ⟨rfl, hd, ho, _⟩; have HD := Lib.hid hd; have HO := Lib.hid ho; clear hd ho))
  go_ret
  exact ⟨rfl, HD.out, HO.out⟩
/-- One more write is pending. -/
theorem Dk.wrote (h : Dk F w gd gt gs ct cs vp xs VT VS S) {vp' u : Value} {VS' : Nat → Value} {i : Nat} {f : Nat → Nat} (hi : i < S.n) (ho : Only (fun k => k = gd ∨ k = gs ∨ vp.ownBlock = some k) w w')
    (hbox : w'.rowIs gd 53 5 (dv (.slice (some ⟨gt, 0, none⟩) S.n ct) (.slice (some ⟨gs, 0, none⟩) S.n cs) vp' (.bool S.gone) (.int .i64 (S.left : Nat))))
    (hse : w'.rowIs gs 35 cs VS') (hpe : w'.ownsRow 0 68 2 vp' (S.P.length + 1) (xs ++ [.int .i64 (i : Nat), u]))
    (hV : ∀ j, VS' j = if j = i then u else VS j) (hu : Sec (fun k => w.heap.size ≤ k ∧ vp'.ownBlock ≠ some k) w' u f) (hp : ∀ k, vp'.ownBlock = some k → vp.ownBlock = some k ∨ (w.heap.size ≤ k ∧ k < w'.heap.size)) :
    Dk (fun k => F k ∨ (w.heap.size ≤ k ∧ k < w'.heap.size)) w' gd gt gs ct cs vp' (xs ++ [.int .i64 (i : Nat), u]) VT VS' (S.wrote i f) := by
  have lgd := h.lt _ h.fd
  have lgt := h.lt _ h.ft
  have lgs := h.lt _ h.fs
  have hlt := hu.lt
  have kb : ∀ k, Rw F gd gt gs vp k → k < w.heap.size → w'.heap[k]? = w.heap[k]? := fun k hk hl => ho.block k hl (by rintro (e | e | e); exact hk.2.1 e; exact hk.2.2.2.1 e; exact hk.2.2.2.2 e)
  have kR : ∀ k, Rw F gd gt gs vp k → k < w.heap.size → Rw (fun k => F k ∨ (w.heap.size ≤ k ∧ k < w'.heap.size)) gd gt gs vp' k := fun k hk hl =>
    ⟨.inl hk.1, hk.2.1, hk.2.2.1, hk.2.2.2.1, fun e => by rcases hp k e with e | e; exact hk.2.2.2.2 e; omega⟩
  have kU : Sec (Rw (fun k => F k ∨ (w.heap.size ≤ k ∧ k < w'.heap.size)) gd gt gs vp') w' u f := hu.keep (fun _ _ _ => rfl) fun k hk hl =>
    ⟨.inr ⟨hk.1, hl⟩, by omega, by omega, by omega, hk.2⟩
  have h1 := h.n1
  exact {
    box := hbox
    th := ho.rowIs h.th (by rintro (e | e | e); exact h.dt e.symm; exact h.ts e; exact (h.px _ e).2.1 rfl)
    se := hse
    pe := by
      have : (S.wrote i f).P.length = S.P.length + 1 := by simp [DS.wrote]
      rw [this]; exact hpe
    hT := fun j hj => (h.hT j hj).keep kb kR
    hS := fun j hj => by
      have e : (S.wrote i f).seen j = if j = i then some f else S.seen j := by
        show layT S.T (S.P ++ [(i, f)]) j = _
        rw [layT_snoc]; rfl
      rw [e, hV]
      by_cases hji : j = i
      · rw [if_pos hji, if_pos hji]; exact kU
      · rw [if_neg hji, if_neg hji]; exact (h.hS j hj).keep kb kR
    hP := (h.hP.keep kb kR).snoc hi kU
    n1 := h.n1
    n2 := h.n2
    nt := h.nt
    ns := h.ns
    lf := h.lf
    dt := h.dt
    ds := h.ds
    ts := h.ts
    px := fun k hk => by
      rcases hp k hk with e | e
      · have := h.px k e; exact ⟨this.1, this.2.1, this.2.2.1, .inl this.2.2.2⟩
      · exact ⟨by omega, by omega, by omega, .inr e⟩
    fd := .inl h.fd
    ft := .inl h.ft
    fs := .inl h.fs
    lt := fun k hk => by
      have := ho.size
      rcases hk with e | e
      · have := h.lt k e; omega
      · exact e.2 }
end
end Go.Proofs.Ytmcbmbcfgefocaa
