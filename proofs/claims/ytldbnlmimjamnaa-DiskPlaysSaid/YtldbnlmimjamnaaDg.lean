/- Contract: Write. -/
import Derived.Test.YtldbnlmimjamnaaDf
namespace Go.Proofs.Ytldbnlmimjamnaa
open Go.RowKit

/-- The disk behind an operation: its footprint has grown by new blocks alone. -/
def DPost (F : Nat → Prop) (w w' : World) (gd : Nat) (S : DS) : Prop := ∃ F', DskAt F' w' gd S ∧ Only F w w' ∧ ∀ k, F' k → F k ∨ w.heap.size ≤ k
section
variable {F : Nat → Prop} {w w' : World} {gd gt gs ct cs : Nat} {vp : Value} {xs : List Value} {VT VS : Nat → Value} {S S' : DS}
theorem write_gone (h : Dk F w gd gt gs ct cs vp xs VT VS S) (hg : S.gone = true) (i : Int) (v : Value) :
    Calls Try.prog 18 #[.pointer (some ⟨gd, 0, none⟩), .int .i64 i, v] w fun e w' => e = .returned (.int .i64 4) ∧ w = w' := by
  obtain ⟨c0, c1, c2, c3, c4⟩ := dvr h.box
  rw [hg] at c3
  clear h hg
  go_enter Try.func18, Try.ntmps18
  go_wp2
  go_ret
  exact ⟨rfl, rfl⟩
theorem write_bad (h : Dk F w gd gt gs ct cs vp xs VT VS S) (hg : S.gone = false) (i : Int) (a : Option Addr) (m c : Nat) (hb : hasB S.n i = false ∨ m ≠ 64) :
    Calls Try.prog 18 #[.pointer (some ⟨gd, 0, none⟩), .int .i64 i, .slice a m c] w fun e w' => e = .returned (.int .i64 1) ∧ w = w' := by
  obtain ⟨c0, c1, c2, c3, c4⟩ := dvr h.box
  rw [hg] at c3
  have HH := Lib.hid (has_any h i)
  clear h hg
  cases hh : hasB S.n i
  case false =>
    rw [hh] at HH
    clear hh hb
    go_enter Try.func18, Try.ntmps18
    go_wp2_with (go_at_call 33; refine HH.out.mono ?_; rintro e w' ⟨rfl, rfl⟩)
    go_ret
    exact ⟨rfl, rfl⟩
  case true =>
    have hm : m ≠ 64 := by
      rcases hb with e | e
      · rw [hh] at e; cases e
      · exact e
    have hne : ((m : Int) == 64) = false := by rw [beq_eq_false_iff_ne]; omega
    have hne2 : ((m : Int) != 64) = true := by rw [bne_iff_ne]; omega
    rw [hh] at HH
    clear hh hb hm
    go_enter Try.func18, Try.ntmps18
    go_wp2_with (go_at_call 33; refine HH.out.mono ?_; rintro e w' ⟨rfl, rfl⟩)
    go_ret
    exact ⟨rfl, rfl⟩
theorem write_stop (h : Dk F w gd gt gs ct cs vp xs VT VS S) (hg : S.gone = false) (hk : S.ok = false) (i : Int) (hi : hasB S.n i = true) (a : Option Addr) (c : Nat) :
    Calls Try.prog 18 #[.pointer (some ⟨gd, 0, none⟩), .int .i64 i, .slice a 64 c] w fun e w' => e = .returned (.int .i64 4) ∧ Dk F w' gd gt gs ct cs vp xs VT VS S.begun ∧ Only (· = gd) w w' := by
  obtain ⟨c0, c1, c2, c3, c4⟩ := dvr h.box
  rw [hg] at c3
  have HH := Lib.hid (has_any h i)
  have HG := Lib.hid (begin_any h hg)
  rw [hi] at HH
  rw [hk] at HG
  clear h hg hi hk
  go_enter Try.func18, Try.ntmps18
  go_wp2_with (first
    | (go_at_call 33; refine HH.out.mono ?_; rintro e w' ⟨rfl, rfl⟩)
    | (go_at_call 34; refine HG.out.mono ?_; rintro e w' ⟨rfl, hd, ho, _⟩; have HD := Lib.hid hd; have HO := Lib.hid ho; clear hd ho))
  go_ret
  exact ⟨rfl, HD.out, HO.out⟩
/-- One more write is pending. -/
theorem Dk.wrote (h : Dk F w gd gt gs ct cs vp xs VT VS S) {vp' u : Value} {VS' : Nat → Value} {i : Nat} {f : Nat → Nat} (hi : i < S.n) (ho : Only (fun k => k = gd ∨ k = gs ∨ vp.ownBlock = some k) w w')
    (hbox : w'.rowIs gd 63 5 (dv (.slice (some ⟨gt, 0, none⟩) S.n ct) (.slice (some ⟨gs, 0, none⟩) S.n cs) vp' (.bool S.gone) (.int .i64 (S.left : Nat))))
    (hse : w'.rowIs gs 31 cs VS') (hpe : w'.ownsRow 0 67 2 vp' (S.P.length + 1) (xs ++ [.int .i64 (i : Nat), u]))
    (hV : ∀ j, VS' j = if j = i then u else VS j) (hu : Sec (fun k => w.heap.size ≤ k ∧ vp'.ownBlock ≠ some k) w' u f) (hp : ∀ k, vp'.ownBlock = some k → vp.ownBlock = some k ∨ (w.heap.size ≤ k ∧ k < w'.heap.size)) :
    Dk (fun k => F k ∨ (w.heap.size ≤ k ∧ k < w'.heap.size)) w' gd gt gs ct cs vp' (xs ++ [.int .i64 (i : Nat), u]) VT VS' (S.wrote i f) := by
  have lgd := h.lt _ h.fd
  have lgt := h.lt _ h.ft
  have lgs := h.lt _ h.fs
  have hlt := hu.lt
  have kb : ∀ k, Rw F gd gt gs vp k → k < w.heap.size → w'.heap[k]? = w.heap[k]? := fun k hk hl => ho.block k hl (by rintro (e | e | e); exact hk.2.1 e; exact hk.2.2.2.1 e; exact hk.2.2.2.2 e)
  have kR : ∀ k, Rw F gd gt gs vp k → k < w.heap.size → Rw (fun k => F k ∨ (w.heap.size ≤ k ∧ k < w'.heap.size)) gd gt gs vp' k := fun k hk hl =>
    ⟨.inl hk.1, hk.2.1, hk.2.2.1, hk.2.2.2.1, fun e => by rcases hp k e with e | e; exact hk.2.2.2.2 e; omega⟩
  have kU : Sec (Rw (fun k => F k ∨ (w.heap.size ≤ k ∧ k < w'.heap.size)) gd gt gs vp') w' u f := hu.keep (fun _ _ _ => rfl) fun k hk hl =>
    ⟨.inr ⟨hk.1, hl⟩, by omega, by omega, by omega, hk.2⟩
  have h1 := h.n1
  exact {
    box := hbox
    th := ho.rowIs h.th (by rintro (e | e | e); exact h.dt e.symm; exact h.ts e; exact (h.px _ e).2.1 rfl)
    se := hse
    pe := by
      have : (S.wrote i f).P.length = S.P.length + 1 := by simp [DS.wrote]
      rw [this]; exact hpe
    hT := fun j hj => (h.hT j hj).keep kb kR
    hS := fun j hj => by
      have e : (S.wrote i f).seen j = if j = i then some f else S.seen j := by
        show layT S.T (S.P ++ [(i, f)]) j = _
        rw [layT_snoc]; rfl
      rw [e, hV]
      by_cases hji : j = i
      · rw [if_pos hji, if_pos hji]; exact kU
      · rw [if_neg hji, if_neg hji]; exact (h.hS j hj).keep kb kR
    hP := (h.hP.keep kb kR).snoc hi kU
    n1 := h.n1
    n2 := h.n2
    nt := h.nt
    ns := h.ns
    lf := h.lf
    dt := h.dt
    ds := h.ds
    ts := h.ts
    px := fun k hk => by
      rcases hp k hk with e | e
      · have := h.px k e; exact ⟨this.1, this.2.1, this.2.2.1, .inl this.2.2.2⟩
      · exact ⟨by omega, by omega, by omega, .inr e⟩
    fd := .inl h.fd
    ft := .inl h.ft
    fs := .inl h.fs
    lt := fun k hk => by
      have := ho.size
      rcases hk with e | e
      · have := h.lt k e; omega
      · exact e.2 }
end
end Go.Proofs.Ytldbnlmimjamnaa
