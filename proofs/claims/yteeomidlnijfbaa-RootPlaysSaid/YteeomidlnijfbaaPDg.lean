/- Contracts: Read, Image. -/
import Derived.Test.YteeomidlnijfbaaPDe
namespace Go.Proofs.Yteeomidlnijfbaa
open Go.RowKit

/-- What Read says: bytes, a code. -/
def DS.read (S : DS) (i : Int) : Option (Nat → Nat) × Int :=
  if S.gone then (none, 4) else if hasB S.n i then (match S.seen i.toNat with | none => (none, 6) | some f => (some f, 0)) else (none, 1)
def ReadPost (S : DS) (w w' : World) (e : Ending) (i : Int) : Prop :=
  ∃ v, e = .returned (.tuple #[v, .int .i64 (S.read i).2]) ∧ SecO (New w) w' v (S.read i).1 ∧ Below w.heap.size w w'
section
variable {F : Nat → Prop} {w w' : World} {gd gt gs ct cs : Nat} {vp : Value} {xs : List Value} {VT VS : Nat → Value} {S S' : DS}
theorem hasB_true {n : Nat} {i : Int} (h : hasB n i = true) : 0 ≤ i ∧ i < n := by simpa [hasB] using h
theorem row_at {w : World} {g sz : Nat} {t : TypeId} {V : Nat → Value} (h : w.rowIs g t sz V) {i : Int} (h0 : 0 ≤ i) (h1 : i < sz) : w.cell? ⟨g, i.toNat, none⟩ = some (V i.toNat) := h.cell (by omega)

set_option maxRecDepth 100000 in
set_option maxHeartbeats 1000000 in
theorem read_any (h : Dk F w gd gt gs ct cs vp xs VT VS S) (i : Int) :
    Calls Try.prog 71 #[.pointer (some ⟨gd, 0, none⟩), .int .i64 i] w fun e w' => ReadPost S w w' e i := by
  obtain ⟨c0, c1, c2, c3, c4⟩ := dvr h.box
  cases hg : S.gone
  case true =>
    rw [hg] at c3
    have HP := Lib.hid (show ReadPost S w w (.returned (.tuple #[.slice none 0 0, .int .i64 4])) i from ⟨.slice none 0 0, by simp [DS.read, hg], by simp [DS.read, hg, SecO], Below.refl _ _⟩)
    clear h hg
    go_enter Try.func71, Try.ntmps71
    go_wp2
    go_ret2
    exact HP.out
  case false =>
    rw [hg] at c3
    cases hh : hasB S.n i
    case false =>
      have HP := Lib.hid (show ReadPost S w w (.returned (.tuple #[.slice none 0 0, .int .i64 1])) i from ⟨.slice none 0 0, by simp [DS.read, hg, hh], by simp [DS.read, hg, hh, SecO], Below.refl _ _⟩)
      have HH := Lib.hid (has_any h i)
      rw [hh] at HH
      clear h hg hh
      go_enter Try.func71, Try.ntmps71
      go_wp2_with (go_at_call 48; refine HH.out.mono ?_; rintro e w' ⟨rfl, rfl⟩)
      go_ret2
      exact HP.out
    case true =>
      obtain ⟨i0, i1⟩ := hasB_true hh
      have HH := Lib.hid (has_any h i)
      rw [hh] at HH
      have hse := row_at h.se i0 (by have := h.ns; omega)
      have hS := h.hS i.toNat (by omega)
      have hcs := h.ns
      cases hs : S.seen i.toNat with
      | none =>
        rw [hs] at hS
        have hS' : VS i.toNat = .slice none 0 0 := hS
        rw [hS'] at hse
        have HP := Lib.hid (show ReadPost S w w (.returned (.tuple #[.slice none 0 0, .int .i64 6])) i from ⟨.slice none 0 0, by simp [DS.read, hg, hh, hs], by simp [DS.read, hg, hh, hs, SecO], Below.refl _ _⟩)
        have q := Lib.run_eql_slice_nil (P := Try.prog) w 35 5 none 0 0 0 0 Try.underlying35
        clear h hg hh hs hS hS'
        go_enter Try.func71, Try.ntmps71
        go_wp2_with (go_at_call 48; refine HH.out.mono ?_; rintro e w' ⟨rfl, rfl⟩)
        go_ret2
        exact HP.out
      | some f =>
        rw [hs] at hS
        have hS' : Sec (Rw F gd gt gs vp) w (VS i.toNat) f := hS
        have hS2 := hS'
        obtain ⟨g, o, c, hv, _⟩ := hS2
        rw [hv] at hse hS'
        have HC := Lib.hid (clone_sec hS')
        have HP := Lib.hid (show ∀ w' v, Sec (New w) w' v f → Below w.heap.size w w' → ReadPost S w w' (.returned (.tuple #[v, .int .i64 0])) i from fun w' v h1 h2 => ⟨v, by simp [DS.read, hg, hh, hs], by simp only [DS.read, hg, hh, hs]; exact h1, h2⟩)
        have q := Lib.run_eql_slice_nil (P := Try.prog) w 35 5 (some ⟨g, o, none⟩) 64 c 0 0 Try.underlying35
        clear h hg hh hs hS hS' hv
        go_enter Try.func71, Try.ntmps71
        go_wp2_with (first
          | (go_at_call 48; refine HH.out.mono ?_; rintro e w' ⟨rfl, rfl⟩)
          | (go_at_call 50; refine HC.out.mono ?_; rintro e w' ⟨v, rfl, hv, hb⟩))
        go_ret2
        exact HP.out _ _ hv hb

/-- Rows of bytes, or none, n of them, in blocks G. -/
def Img (G : Nat → Prop) (w : World) (v : Value) (n : Nat) (T : Nat → Option (Nat → Nat)) : Prop :=
  ∃ g c V, v = .slice (some ⟨g, 0, none⟩) n c ∧ n ≤ c ∧ G g ∧ g < w.heap.size ∧ w.rowIs g 35 c V ∧ ∀ i, i < n → SecO G w (V i) (T i)
theorem Img.keep {G : Nat → Prop} {v : Value} {n : Nat} {T : Nat → Option (Nat → Nat)} (h : Img G w v n T) (hb : ∀ k, G k → k < w.heap.size → w'.heap[k]? = w.heap[k]?) (hs : w.heap.size ≤ w'.heap.size) : Img G w' v n T := by
  obtain ⟨g, c, V, rfl, h1, h2, h3, h4, h5⟩ := h
  exact ⟨g, c, V, rfl, h1, h2, by omega, h4.of_block (hb g h2 h3), fun i hi => (h5 i hi).keep hb fun _ hk _ => hk⟩
def ImgPost (S : DS) (w w' : World) (e : Ending) : Prop := ∃ v, e = .returned v ∧ Img (New w) w' v S.n S.T ∧ Below w.heap.size w w'
set_option maxRecDepth 100000 in
set_option maxHeartbeats 2000000 in
theorem image_any (h : Dk F w gd gt gs ct cs vp xs VT VS S) :
    Calls Try.prog 33 #[.pointer (some ⟨gd, 0, none⟩)] w fun e w' => ImgPost S w w' e := by
  have hb := h.box
  obtain ⟨c0, c1, c2, c3, c4⟩ := dvr hb
  have hgd := hb.lt
  have HT := Lib.hid h.th
  have HTS := Lib.hid h.hT
  have hct := h.nt
  have hn2 := h.n2
  have HB := Lib.hid hb
  clear h hb
  go_enter Try.func33, Try.ntmps33
  go_wp2_with (
    at_make; refine wpList_make_rowIs rfl _ _ 32 rfl 35 (.slice none 0 0) 24 Try.underlying32 rows_info rfl .i64 .i64 _ _ S.n rfl rfl rfl rfl (by omega) (by omega) ?_; intro w1 hrow1 hb1 hs1
    obtain ⟨d0, _⟩ := dvr (HB.out.of_block (hb1.block _ hgd)))
  have HR1 := Lib.hid (show w1.rowIs w.heap.size 35 S.n (fun _ => .slice none 0 0) from hrow1)
  have HB1 := Lib.hid (show Below w.heap.size w w1 from hb1)
  have hgt := HT.out.lt
  clear hrow1 hb1 hs1 c0 c1 c2 c3 c4 d0
  go_loopw [17] (fun v wr => ∃ (k : Nat) (V : Nat → Value), k ≤ S.n ∧ v = .int .i64 k ∧ wr.rowIs w.heap.size 35 S.n V ∧ (∀ i, i < k → SecO (fun j => w.heap.size < j) wr (V i) (S.T i)) ∧ Below w.heap.size w wr) (fun v _ => S.n - (intOf v).toNat)
  case atStart => exact ⟨0, _, Nat.zero_le _, rfl, HR1.out, fun i hi => absurd hi (by omega), HB1.out⟩
  case round =>
    obtain ⟨k, V, hk, rfl, hrow, hall, hbl⟩ := hrel
    have HROW := Lib.hid hrow
    have HALL := Lib.hid hall
    have HBL := Lib.hid hbl
    have hs := hbl.size
    have hlt1 := hrow.lt
    clear hrow hall hbl HR1 HB1
    by_cases hlt : k < S.n
    · have hc := (HT.out.of_block (HBL.out.block gt hgt)).cell (i := k) (by omega)
      have HC := Lib.hid (clone_os ((HTS.out k hlt).keep (fun j _ hj => HBL.out.block j hj) (R' := fun _ => True) (fun _ _ _ => trivial)))
      go_wp2_with (
        go_at_call 50; refine HC.out.mono ?_; rintro e w2 ⟨ua, un, uc, rfl, hu, hb2⟩
        have hz2 := (HROW.out.of_block (hb2.block _ hlt1)).frozen k
        have hz3 := (HROW.out.of_block (hb2.block _ hlt1)).cell hlt)
      have HU := Lib.hid (hu.keep (w' := w2.setCell ⟨w.heap.size, k, none⟩ (.slice ua un uc)) (R' := fun j => w.heap.size < j) (fun j hj _ => Below.heap_setCell _ _ _ _ (by show j ≠ w.heap.size; unfold New at hj; omega)) (fun j hj _ => by unfold New at hj; omega))
      have HB2 := Lib.hid ((HBL.out.trans (hb2.mono hs)).setCell (p := ⟨w.heap.size, k, none⟩) (Nat.le_refl _) (.slice ua un uc))
      have HROW2 := Lib.hid ((HROW.out.of_block (hb2.block _ hlt1)).set k (.slice ua un uc))
      have HALL2 := Lib.hid (show ∀ i, i < k → SecO (fun j => w.heap.size < j) (w2.setCell ⟨w.heap.size, k, none⟩ (.slice ua un uc)) (V i) (S.T i) from fun i hi => (HALL.out i hi).keep (fun j hj hl => (Below.heap_setCell _ _ _ _ (by show j ≠ w.heap.size; omega)).trans (hb2.block j hl)) (fun _ hj _ => hj))
      clear hu hb2 hz2 hz3 hc
      go_roundw
      case rel => exact ⟨k + 1, _, by omega, by go_num, HROW2.out, fun i hi => by
        by_cases hik : i = k
        · subst hik; rw [if_pos rfl]; exact HU.out
        · rw [if_neg hik]; exact HALL2.out i (by omega), HB2.out⟩
      case measure => simp [intOf]; omega
    · obtain rfl : k = S.n := by omega
      have HN := Lib.hid (show Img (New w) wr (.slice (some ⟨w.heap.size, 0, none⟩) S.n S.n) S.n S.T from ⟨_, _, V, rfl, Nat.le_refl _, Nat.le_refl _, hlt1, HROW.out, fun i hi => (HALL.out i hi).keep (fun _ _ _ => rfl) (fun j hj _ => by show w.heap.size ≤ j; omega)⟩)
      go_wp2
      go_ret
      exact ⟨_, rfl, HN.out, HBL.out⟩
end
end Go.Proofs.Yteeomidlnijfbaa

/- Contract: Write. -/
namespace Go.Proofs.Yteeomidlnijfbaa
open Go.RowKit

/-- The disk behind an operation: its footprint has grown by new blocks alone. -/
def DPost (F : Nat → Prop) (w w' : World) (gd : Nat) (S : DS) : Prop := ∃ F', DskAt F' w' gd S ∧ Only F w w' ∧ ∀ k, F' k → F k ∨ w.heap.size ≤ k
section
variable {F : Nat → Prop} {w w' : World} {gd gt gs ct cs : Nat} {vp : Value} {xs : List Value} {VT VS : Nat → Value} {S S' : DS}
theorem write_gone (h : Dk F w gd gt gs ct cs vp xs VT VS S) (hg : S.gone = true) (i : Int) (v : Value) :
    Calls Try.prog 22 #[.pointer (some ⟨gd, 0, none⟩), .int .i64 i, v] w fun e w' => e = .returned (.int .i64 4) ∧ w = w' := by
  obtain ⟨c0, c1, c2, c3, c4⟩ := dvr h.box
  rw [hg] at c3
  clear h hg
  go_enter Try.func22, Try.ntmps22
  go_wp2
  go_ret
  exact ⟨rfl, rfl⟩
theorem write_bad (h : Dk F w gd gt gs ct cs vp xs VT VS S) (hg : S.gone = false) (i : Int) (a : Option Addr) (m c : Nat) (hb : hasB S.n i = false ∨ m ≠ 64) :
    Calls Try.prog 22 #[.pointer (some ⟨gd, 0, none⟩), .int .i64 i, .slice a m c] w fun e w' => e = .returned (.int .i64 1) ∧ w = w' := by
  obtain ⟨c0, c1, c2, c3, c4⟩ := dvr h.box
  rw [hg] at c3
  have HH := Lib.hid (has_any h i)
  clear h hg
  cases hh : hasB S.n i
  case false =>
    rw [hh] at HH
    clear hh hb
    go_enter Try.func22, Try.ntmps22
    go_wp2_with (go_at_call 48; refine HH.out.mono ?_; rintro e w' ⟨rfl, rfl⟩)
    go_ret
    exact ⟨rfl, rfl⟩
  case true =>
    have hm : m ≠ 64 := by
      rcases hb with e | e
      · rw [hh] at e; cases e
      · exact e
    have hne : ((m : Int) == 64) = false := by rw [beq_eq_false_iff_ne]; omega
    have hne2 : ((m : Int) != 64) = true := by rw [bne_iff_ne]; omega
    rw [hh] at HH
    clear hh hb hm
    go_enter Try.func22, Try.ntmps22
    go_wp2_with (go_at_call 48; refine HH.out.mono ?_; rintro e w' ⟨rfl, rfl⟩)
    go_ret
    exact ⟨rfl, rfl⟩
theorem write_stop (h : Dk F w gd gt gs ct cs vp xs VT VS S) (hg : S.gone = false) (hk : S.ok = false) (i : Int) (hi : hasB S.n i = true) (a : Option Addr) (c : Nat) :
    Calls Try.prog 22 #[.pointer (some ⟨gd, 0, none⟩), .int .i64 i, .slice a 64 c] w fun e w' => e = .returned (.int .i64 4) ∧ Dk F w' gd gt gs ct cs vp xs VT VS S.begun ∧ Only (· = gd) w w' := by
  obtain ⟨c0, c1, c2, c3, c4⟩ := dvr h.box
  rw [hg] at c3
  have HH := Lib.hid (has_any h i)
  have HG := Lib.hid (begin_any h hg)
  rw [hi] at HH
  rw [hk] at HG
  clear h hg hi hk
  go_enter Try.func22, Try.ntmps22
  go_wp2_with (first
    | (go_at_call 48; refine HH.out.mono ?_; rintro e w' ⟨rfl, rfl⟩)
    | (go_at_call 49; refine HG.out.mono ?_; rintro e w' ⟨rfl, hd, ho, _⟩; have HD := Lib.hid hd; have HO := Lib.hid ho; clear hd ho))
  go_ret
  exact ⟨rfl, HD.out, HO.out⟩
/-- One more write is pending. -/
theorem Dk.wrote (h : Dk F w gd gt gs ct cs vp xs VT VS S) {vp' u : Value} {VS' : Nat → Value} {i : Nat} {f : Nat → Nat} (hi : i < S.n) (ho : Only (fun k => k = gd ∨ k = gs ∨ vp.ownBlock = some k) w w')
    (hbox : w'.rowIs gd 75 5 (dv (.slice (some ⟨gt, 0, none⟩) S.n ct) (.slice (some ⟨gs, 0, none⟩) S.n cs) vp' (.bool S.gone) (.int .i64 (S.left : Nat))))
    (hse : w'.rowIs gs 35 cs VS') (hpe : w'.ownsRow 0 85 2 vp' (S.P.length + 1) (xs ++ [.int .i64 (i : Nat), u]))
    (hV : ∀ j, VS' j = if j = i then u else VS j) (hu : Sec (fun k => w.heap.size ≤ k ∧ vp'.ownBlock ≠ some k) w' u f) (hp : ∀ k, vp'.ownBlock = some k → vp.ownBlock = some k ∨ (w.heap.size ≤ k ∧ k < w'.heap.size)) :
    Dk (fun k => F k ∨ (w.heap.size ≤ k ∧ k < w'.heap.size)) w' gd gt gs ct cs vp' (xs ++ [.int .i64 (i : Nat), u]) VT VS' (S.wrote i f) := by
  have lgd := h.lt _ h.fd
  have lgt := h.lt _ h.ft
  have lgs := h.lt _ h.fs
  have hlt := hu.lt
  have kb : ∀ k, Rw F gd gt gs vp k → k < w.heap.size → w'.heap[k]? = w.heap[k]? := fun k hk hl => ho.block k hl (by rintro (e | e | e); exact hk.2.1 e; exact hk.2.2.2.1 e; exact hk.2.2.2.2 e)
  have kR : ∀ k, Rw F gd gt gs vp k → k < w.heap.size → Rw (fun k => F k ∨ (w.heap.size ≤ k ∧ k < w'.heap.size)) gd gt gs vp' k := fun k hk hl =>
    ⟨.inl hk.1, hk.2.1, hk.2.2.1, hk.2.2.2.1, fun e => by rcases hp k e with e | e; exact hk.2.2.2.2 e; omega⟩
  have kU : Sec (Rw (fun k => F k ∨ (w.heap.size ≤ k ∧ k < w'.heap.size)) gd gt gs vp') w' u f := hu.keep (fun _ _ _ => rfl) fun k hk hl =>
    ⟨.inr ⟨hk.1, hl⟩, by omega, by omega, by omega, hk.2⟩
  have h1 := h.n1
  exact {
    box := hbox
    th := ho.rowIs h.th (by rintro (e | e | e); exact h.dt e.symm; exact h.ts e; exact (h.px _ e).2.1 rfl)
    se := hse
    pe := by
      have : (S.wrote i f).P.length = S.P.length + 1 := by simp [DS.wrote]
      rw [this]; exact hpe
    hT := fun j hj => (h.hT j hj).keep kb kR
    hS := fun j hj => by
      have e : (S.wrote i f).seen j = if j = i then some f else S.seen j := by
        show layT S.T (S.P ++ [(i, f)]) j = _
        rw [layT_snoc]; rfl
      rw [e, hV]
      by_cases hji : j = i
      · rw [if_pos hji, if_pos hji]; exact kU
      · rw [if_neg hji, if_neg hji]; exact (h.hS j hj).keep kb kR
    hP := (h.hP.keep kb kR).snoc hi kU
    n1 := h.n1
    n2 := h.n2
    nt := h.nt
    ns := h.ns
    lf := h.lf
    dt := h.dt
    ds := h.ds
    ts := h.ts
    px := fun k hk => by
      rcases hp k hk with e | e
      · have := h.px k e; exact ⟨this.1, this.2.1, this.2.2.1, .inl this.2.2.2⟩
      · exact ⟨by omega, by omega, by omega, .inr e⟩
    fd := .inl h.fd
    ft := .inl h.ft
    fs := .inl h.fs
    lt := fun k hk => by
      have := ho.size
      rcases hk with e | e
      · have := h.lt k e; omega
      · exact e.2 }
end
end Go.Proofs.Yteeomidlnijfbaa
