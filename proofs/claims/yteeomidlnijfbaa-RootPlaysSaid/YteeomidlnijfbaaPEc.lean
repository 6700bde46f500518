/- Contract: the document's Write. -/
import Derived.Test.YteeomidlnijfbaaPEb
namespace Go.Proofs.Yteeomidlnijfbaa
open Go.RowKit

def RAt (G : Nat → Prop) (w : World) (g : Nat) (t : Nat) (S : DS) : Prop := ∃ gB cB gX vA vN ys VB X stop begun, Rk G w g gB cB gX vA vN ys VB X stop begun t S
def RPost (G : Nat → Prop) (w w' : World) (g t : Nat) (S : DS) : Prop := ∃ G', RAt G' w' g t S ∧ Only G w w' ∧ ∀ k, G' k → G k ∨ w.heap.size ≤ k
section
variable {G : Nat → Prop} {w w' : World} {g gB cB gX : Nat} {vA vN : Value} {ys : List Value} {VB : Nat → Value} {X : Nat → Bool} {stop begun stop' begun' : Int} {t t' : Nat} {S S' : DS}
theorem RPost.stay (h : Rk G w g gB cB gX vA vN ys VB X stop begun t S) (ht : t ≤ t') : RPost G w w g t' S :=
  ⟨G, ⟨_, _, _, _, _, _, _, _, _, _, { h with bg := ⟨h.bg.1, by have := h.bg.2; omega⟩ }⟩, Only.refl, fun _ hk => .inl hk⟩
theorem RPost.box (h : Rk G w' g gB cB gX vA vN ys VB X stop begun t S) (ho : Only (· = g) w w') : RPost G w w' g t S :=
  ⟨G, ⟨_, _, _, _, _, _, _, _, _, _, h⟩, ho.mono (by rintro k rfl; exact h.gg.1), fun _ hk => .inl hk⟩
theorem rwrite_gone (h : Rk G w g gB cB gX vA vN ys VB X stop begun t S) (hg : S.gone = true) (i : Int) (v : Value) :
    Calls Try.prog 28 #[.pointer (some ⟨g, 0, none⟩), .int .i64 i, v] w fun e w' => e = .returned (.int .i64 4) ∧ w = w' := by
  obtain ⟨c0, c1, c2, c3, c4, c5, c6⟩ := dvr7 h.box
  rw [hg] at c4
  clear h hg
  go_enter Try.func28, Try.ntmps28
  go_wp2
  go_ret
  exact ⟨rfl, rfl⟩
theorem rwrite_bad (h : Rk G w g gB cB gX vA vN ys VB X stop begun t S) (hg : S.gone = false) (i : Int) (a : Option Addr) (m c : Nat) (hb : hasB S.n i = false ∨ m ≠ 64) :
    Calls Try.prog 28 #[.pointer (some ⟨g, 0, none⟩), .int .i64 i, .slice a m c] w fun e w' => e = .returned (.int .i64 1) ∧ w = w' := by
  obtain ⟨c0, c1, c2, c3, c4, c5, c6⟩ := dvr7 h.box
  rw [hg] at c4
  clear h hg
  have hcase : i < 0 ∨ (¬ i < 0 ∧ (S.n : Int) ≤ i) ∨ (¬ i < 0 ∧ ¬ (S.n : Int) ≤ i ∧ m ≠ 64) := by
    by_cases h0 : i < 0
    · exact .inl h0
    · by_cases h1 : (S.n : Int) ≤ i
      · exact .inr (.inl ⟨h0, h1⟩)
      · refine .inr (.inr ⟨h0, h1, ?_⟩)
        rcases hb with e | e
        · simp only [hasB, decide_eq_false_iff_not] at e; omega
        · exact e
  clear hb
  rcases hcase with h0 | ⟨h0, h1⟩ | ⟨h0, h1, h2⟩
  · go_enter Try.func28, Try.ntmps28
    go_wp2
    go_ret
    exact ⟨rfl, rfl⟩
  · have d0 : decide (i < 0) = false := by rw [decide_eq_false_iff_not]; exact h0
    go_enter Try.func28, Try.ntmps28
    go_wp2
    go_ret
    exact ⟨rfl, rfl⟩
  · have d0 : decide (i < 0) = false := by rw [decide_eq_false_iff_not]; exact h0
    have d1 : decide ((S.n : Int) ≤ i) = false := by rw [decide_eq_false_iff_not]; exact h1
    have hne : ((m : Int) == 64) = false := by rw [beq_eq_false_iff_ne]; omega
    have hne2 : ((m : Int) != 64) = true := by rw [bne_iff_ne]; omega
    clear h2
    go_enter Try.func28, Try.ntmps28
    go_wp2
    go_ret
    exact ⟨rfl, rfl⟩
theorem rwrite_stop (h : Rk G w g gB cB gX vA vN ys VB X stop begun t S) (hg : S.gone = false) (hk : S.ok = false) (ht : t ≤ 1000000) (i : Nat) (hi : i < S.n) (a : Option Addr) (c : Nat) :
    Calls Try.prog 28 #[.pointer (some ⟨g, 0, none⟩), .int .i64 (i : Nat), .slice a 64 c] w fun e w' => e = .returned (.int .i64 4) ∧ RPost G w w' g (t + 1) S.begun := by
  obtain ⟨c0, c1, c2, c3, c4, c5, c6⟩ := dvr7 h.box
  rw [hg] at c4
  have HG := Lib.hid (goes_any h hg ht)
  rw [hk] at HG
  have d0 : decide ((i : Int) < 0) = false := by rw [decide_eq_false_iff_not]; omega
  have d1 : decide ((S.n : Int) ≤ (i : Int)) = false := by rw [decide_eq_false_iff_not]; omega
  clear h hg hk
  go_enter Try.func28, Try.ntmps28
  go_wp2_with (go_at_call 55; refine HG.out.mono ?_; rintro e w' ⟨rfl, hd, ho⟩; have HD := Lib.hid hd; have HO := Lib.hid ho; clear hd ho)
  go_ret
  exact ⟨rfl, .box HD.out HO.out⟩
/-- One more write is pending. -/
theorem Rk.wrote {w1 : World} (h : Rk G w1 g gB cB gX vA vN ys VB X stop begun t S) {vA' vN' u : Value} {i : Nat} {f : Nat → Nat} (hi : i < S.n) (ho : Only (fun k => k = g ∨ vA.ownBlock = some k ∨ vN.ownBlock = some k) w1 w')
    (hbox : w'.rowIs g 91 7 (dv7 (.slice (some ⟨gB, 0, none⟩) S.n cB) (.slice (some ⟨gX, 0, none⟩) S.n S.n) vA' vN' (.bool S.gone) (.int .i64 stop) (.int .i64 begun)))
    (hA : w'.ownsRow 0 3 1 vA' (S.P.length + 1) (PendI S.P ++ [.int .i64 (i : Nat)])) (hN : w'.ownsRow 0 35 1 vN' (S.P.length + 1) (ys ++ [u]))
    (hu : Sec (fun k => w1.heap.size ≤ k ∧ vA'.ownBlock ≠ some k ∧ vN'.ownBlock ≠ some k) w' u f) (pA : ∀ k, vA'.ownBlock = some k → vA.ownBlock = some k ∨ (w1.heap.size ≤ k ∧ k < w'.heap.size)) (pN : ∀ k, vN'.ownBlock = some k → (vN.ownBlock = some k ∨ (w1.heap.size ≤ k ∧ k < w'.heap.size)) ∧ vA'.ownBlock ≠ some k) :
    Rk (fun k => G k ∨ (w1.heap.size ≤ k ∧ k < w'.heap.size)) w' g gB cB gX vA' vN' (ys ++ [u]) VB X stop begun t (S.wrote i f) := by
  have lg := h.lt _ h.gg.1
  have lB := h.lt _ h.gg.2.1
  have lX := h.lt _ h.gg.2.2
  have kb : ∀ k, Rr G g gB gX vA vN k → k < w1.heap.size → w'.heap[k]? = w1.heap[k]? := fun k hk hl => ho.block k hl (by rintro (e | e | e); exact hk.2.1 e; exact hk.2.2.2.2.1 e; exact hk.2.2.2.2.2 e)
  have kR : ∀ k, Rr G g gB gX vA vN k → k < w1.heap.size → Rr (fun k => G k ∨ (w1.heap.size ≤ k ∧ k < w'.heap.size)) g gB gX vA' vN' k := fun k hk hl =>
    ⟨.inl hk.1, hk.2.1, hk.2.2.1, hk.2.2.2.1, fun e => by rcases pA k e with e | e; exact hk.2.2.2.2.1 e; omega, fun e => by rcases (pN k e).1 with e | e; exact hk.2.2.2.2.2 e; omega⟩
  have kU : Sec (Rr (fun k => G k ∨ (w1.heap.size ≤ k ∧ k < w'.heap.size)) g gB gX vA' vN') w' u f := hu.keep (fun _ _ _ => rfl) fun k hk hl => ⟨.inr ⟨hk.1, hl⟩, by omega, by omega, by omega, hk.2.1, hk.2.2⟩
  have hyl : ys.length = S.P.length := by have := h.oN.1; omega
  exact {
    box := hbox
    rB := ho.rowIs h.rB (by rintro (e | e | e); exact h.e1.1 e.symm; exact (h.pA _ e).2.1 rfl; exact (h.pN _ e).2.1 rfl)
    rX := ho.rowIs h.rX (by rintro (e | e | e); exact h.e1.2.1 e.symm; exact (h.pA _ e).2.2.1 rfl; exact (h.pN _ e).2.2.1 rfl)
    oA := by
      have e1 : (S.wrote i f).P.length = S.P.length + 1 := by simp [DS.wrote]
      have e2 : PendI (S.wrote i f).P = PendI S.P ++ [.int .i64 (i : Nat)] := by simp [DS.wrote, PendI]
      rw [e1, e2]; exact hA
    oN := by
      have e1 : (S.wrote i f).P.length = S.P.length + 1 := by simp [DS.wrote]
      rw [e1]; exact hN
    hT := fun j hj => (h.hT j hj).keep kb kR
    hP := fun k p hp => by
      have hp' : (S.P ++ [(i, f)])[k]? = some p := hp
      by_cases hk : k < S.P.length
      · rw [List.getElem?_append_left hk] at hp'
        obtain ⟨a, v, b, c⟩ := h.hP k p hp'
        exact ⟨a, v, by rw [List.getElem?_append_left (by omega)]; exact b, c.keep kb kR⟩
      · have hk2 : k = S.P.length := by
          have := (List.getElem?_eq_some_iff.1 hp').1
          simp at this
          omega
        subst hk2
        rw [List.getElem?_append_right (Nat.le_refl _), Nat.sub_self] at hp'
        simp at hp'
        subst hp'
        exact ⟨hi, u, by rw [List.getElem?_append_right (by omega), hyl, Nat.sub_self]; rfl, kU⟩
    n1 := h.n1
    n2 := h.n2
    nB := h.nB
    pl := h.pl
    bg := h.bg
    sp := h.sp
    e1 := h.e1
    pA := fun k hk => by
      rcases pA k hk with e | e
      · have := h.pA k e; exact ⟨this.1, this.2.1, this.2.2.1, .inl this.2.2.2.1, fun e2 => (pN k e2).2 hk⟩
      · exact ⟨by omega, by omega, by omega, .inr e, fun e2 => (pN k e2).2 hk⟩
    pN := fun k hk => by
      rcases (pN k hk).1 with e | e
      · have := h.pN k e; exact ⟨this.1, this.2.1, this.2.2.1, .inl this.2.2.2⟩
      · exact ⟨by omega, by omega, by omega, .inr e⟩
    gg := ⟨.inl h.gg.1, .inl h.gg.2.1, .inl h.gg.2.2⟩
    lt := fun k hk => by
      have := ho.size
      rcases hk with e | e
      · have := h.lt k e; omega
      · exact e.2 }
end
end Go.Proofs.Yteeomidlnijfbaa
