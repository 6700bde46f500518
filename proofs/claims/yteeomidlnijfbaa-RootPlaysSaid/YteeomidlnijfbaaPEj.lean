/- Both disks beside each other. -/
import Derived.Test.YteeomidlnijfbaaPEh
import Derived.Deep.RegionHeld3
namespace Go.Proofs.Yteeomidlnijfbaa
open Go.RowKit

/-- The program's disk, the document's, and a saying beside both; all of it new behind w0. -/
def Two (w0 w : World) (gd g t : Nat) (S R : DS) (Φ : World → Prop) : Prop :=
  ∃ F G Z : Nat → Prop, DskAt F w gd S ∧ RAt G w g t R ∧ Below w0.heap.size w0 w ∧ (∀ k, F k → w0.heap.size ≤ k ∧ ¬ G k ∧ ¬ Z k) ∧ (∀ k, G k → w0.heap.size ≤ k ∧ ¬ Z k) ∧ (∀ k, Z k → k < w.heap.size) ∧ ∀ w', (∀ k, Z k → w'.heap[k]? = w.heap[k]?) → w.heap.size ≤ w'.heap.size → Φ w'
section
variable {F G : Nat → Prop} {w0 w w' : World} {gd g t t' : Nat} {S S' R R' : DS} {Φ Ψ : World → Prop}
theorem RAt.lt (h : RAt G w g t S) : ∀ k, G k → k < w.heap.size := by
  obtain ⟨_, _, _, _, _, _, _, _, _, _, h⟩ := h
  exact h.lt
theorem RAt.keep (h : RAt G w g t S) (hb : ∀ k, G k → w'.heap[k]? = w.heap[k]?) (hs : w.heap.size ≤ w'.heap.size) : RAt G w' g t S := by
  obtain ⟨_, _, _, _, _, _, _, _, _, _, h⟩ := h
  exact ⟨_, _, _, _, _, _, _, _, _, _, h.keep hb hs⟩
theorem Two.sat (h : Two w0 w gd g t S R Φ) : Φ w := by
  obtain ⟨F, G, Z, h1, h2, h3, h4, h5, h6, h7⟩ := h
  exact h7 w (fun _ _ => rfl) (Nat.le_refl _)
theorem Two.bel (h : Two w0 w gd g t S R Φ) : Below w0.heap.size w0 w := by
  obtain ⟨F, G, Z, h1, h2, h3, h4, h5, h6, h7⟩ := h
  exact h3
theorem Two.imp (h : Two w0 w gd g t S R Φ) (hp : ∀ u, Φ u → Ψ u) : Two w0 w gd g t S R Ψ := by
  obtain ⟨F, G, Z, h1, h2, h3, h4, h5, h6, h7⟩ := h
  exact ⟨F, G, Z, h1, h2, h3, h4, h5, h6, fun u a b => hp u (h7 u a b)⟩
theorem Two.more (h : Two w0 w gd g t S R Φ) (hb : Below w.heap.size w w') (hp : ∀ u, (∀ k, w.heap.size ≤ k → k < w'.heap.size → u.heap[k]? = w'.heap[k]?) → w'.heap.size ≤ u.heap.size → Ψ u) : Two w0 w' gd g t S R fun u => Φ u ∧ Ψ u := by
  obtain ⟨F, G, Z, h1, h2, h3, h4, h5, h6, h7⟩ := h
  have hl := h1.lt
  have hl2 := h2.lt
  have hs := hb.size
  refine ⟨F, G, fun k => Z k ∨ (w.heap.size ≤ k ∧ k < w'.heap.size), h1.keep (fun k hk => hb.block k (hl k hk)) hs, h2.keep (fun k hk => hb.block k (hl2 k hk)) hs, bbt h3 hb, fun k hk => ⟨(h4 k hk).1, (h4 k hk).2.1, ?_⟩, fun k hk => ⟨(h5 k hk).1, ?_⟩, fun k hk => ?_, fun u hu hsz => ⟨?_, ?_⟩⟩
  · rintro (e | e)
    · exact (h4 k hk).2.2 e
    · have := hl k hk; omega
  · rintro (e | e)
    · exact (h5 k hk).2 e
    · have := hl2 k hk; omega
  · rcases hk with e | e
    · have := h6 k e; omega
    · exact e.2
  · exact h7 u (fun k hk => (hu k (.inl hk)).trans (hb.block k (h6 k hk))) (by omega)
  · exact hp u (fun k hk hk2 => hu k (.inr ⟨hk, hk2⟩)) hsz
theorem Two.below (h : Two w0 w gd g t S R Φ) (hb : Below w.heap.size w w') : Two w0 w' gd g t S R Φ :=
  (h.more (Ψ := fun _ => True) hb (fun _ _ _ => trivial)).imp fun _ h => h.1
theorem Two.drew (h : Two w0 w gd g t S R Φ) : Two w0 w.drew gd g t S R Φ := by
  obtain ⟨F, G, Z, h1, h2, h3, h4, h5, h6, h7⟩ := h
  exact ⟨F, G, Z, h1.keep (fun _ _ => rfl) (Nat.le_refl _), h2.keep (fun _ _ => rfl) (Nat.le_refl _), Below.drew_ h3, h4, h5, h6, h7⟩
/-- An operation on the program's. -/
theorem Two.post1 (h : Two w0 w gd g t S R Φ) {f : FuncId} {args : Array Value} {E : Ending → Prop} (hp : ∀ F, DskAt F w gd S → (∀ w1, Only F w w1 → Φ w1) → Calls Try.prog f args w fun e w' => E e ∧ DPost F w w' gd S') :
    Calls Try.prog f args w fun e w' => E e ∧ Two w0 w' gd g t S' R Φ := by
  obtain ⟨F, G, Z, h1, h2, h3, h4, h5, h6, h7⟩ := h
  have hl := h1.lt
  have hl2 := h2.lt
  have key : ∀ w1, Only F w w1 → ∀ k, Z k → w1.heap[k]? = w.heap[k]? := fun w1 ho k hk => ho.block k (h6 k hk) fun e => (h4 k e).2.2 hk
  refine (hp F h1 (fun w1 ho => h7 w1 (key w1 ho) ho.size)).mono ?_
  rintro e w' ⟨hR, F', d1, d2, d3⟩
  have h3s := h3.size
  refine ⟨hR, F', G, Z, d1, h2.keep (fun k hk => d2.block k (hl2 k hk) fun e => (h4 k e).2.1 hk) d2.size, h3.trans (d2.below h3.size fun k hk => (h4 k hk).1), fun k hk => ?_, h5, fun k hk => Nat.lt_of_lt_of_le (h6 k hk) d2.size, fun u hu hs => h7 u (fun k hk => (hu k hk).trans (key w' d2 k hk)) (Nat.le_trans d2.size hs)⟩
  rcases d3 k hk with e | e
  · exact h4 k e
  · exact ⟨by omega, fun hz => by have := hl2 k hz; omega, fun hz => by have := h6 k hz; omega⟩
/-- An operation on the document's. -/
theorem Two.post2 (h : Two w0 w gd g t S R Φ) {f : FuncId} {args : Array Value} {E : Ending → Prop} (hp : ∀ G, RAt G w g t R → (∀ w1, Only G w w1 → Φ w1) → (∀ k, G k → w0.heap.size ≤ k) → Calls Try.prog f args w fun e w' => E e ∧ RPost G w w' g t' R') :
    Calls Try.prog f args w fun e w' => E e ∧ Two w0 w' gd g t' S R' Φ := by
  obtain ⟨F, G, Z, h1, h2, h3, h4, h5, h6, h7⟩ := h
  have hl := h1.lt
  have hl2 := h2.lt
  have key : ∀ w1, Only G w w1 → ∀ k, Z k → w1.heap[k]? = w.heap[k]? := fun w1 ho k hk => ho.block k (h6 k hk) fun e => (h5 k e).2 hk
  refine (hp G h2 (fun w1 ho => h7 w1 (key w1 ho) ho.size) fun k hk => (h5 k hk).1).mono ?_
  rintro e w' ⟨hR, G', d1, d2, d3⟩
  have h3s := h3.size
  refine ⟨hR, F, G', Z, h1.keep (fun k hk => d2.block k (hl k hk) fun e => (h4 k hk).2.1 e) d2.size, d1, h3.trans (d2.below h3.size fun k hk => (h5 k hk).1), fun k hk => ⟨(h4 k hk).1, fun hz => ?_, (h4 k hk).2.2⟩, fun k hk => ?_, fun k hk => Nat.lt_of_lt_of_le (h6 k hk) d2.size, fun u hu hs => h7 u (fun k hk => (hu k hk).trans (key w' d2 k hk)) (Nat.le_trans d2.size hs)⟩
  · rcases d3 k hz with e | e
    · exact (h4 k hk).2.1 e
    · have := hl k hk; omega
  · rcases d3 k hk with e | e
    · exact h5 k e
    · exact ⟨by omega, fun hz => by have := h6 k hz; omega⟩
theorem Two.write1 (h : Two w0 w gd g t S R Φ) (hP : S.P.length ≤ 1000000) (i : Int) {a : Option Addr} {c : Nat} {f : Nat → Nat} (hv : ∀ u, Φ u → Sec Any u (.slice a 64 c) f) :
    Calls Try.prog 22 #[.pointer (some ⟨gd, 0, none⟩), .int .i64 i, .slice a 64 c] w fun e w' => e = .returned (.int .i64 (S.write i f).2) ∧ Two w0 w' gd g t (S.write i f).1 R Φ := by
  refine h.post1 (E := fun e => e = .returned (.int .i64 (S.write i f).2)) fun F hF hs => ?_
  obtain ⟨gt, gs, ct, cs, vp, xs, VT, VS, hd⟩ := id hF
  unfold DS.write
  cases hg : S.gone
  case true =>
    refine (write_gone hd hg i _).mono ?_
    rintro e w' ⟨rfl, rfl⟩
    exact ⟨rfl, .stay hF⟩
  case false =>
    cases hi : hasB S.n i
    case false =>
      refine (write_bad hd hg i a 64 c (.inl hi)).mono ?_
      rintro e w' ⟨rfl, rfl⟩
      exact ⟨rfl, .stay hF⟩
    case true =>
      cases hk : S.ok
      case false =>
        refine (write_stop hd hg hk i hi a c).mono ?_
        rintro e w' ⟨rfl, a1, a2⟩
        exact ⟨rfl, .box a1 a2⟩
      case true =>
        obtain ⟨i0, i1⟩ := hasB_true hi
        have := write_ok hd hg hk i.toNat (by omega) hP (a := a) (c := c) (f := f) fun w1 ho => hv w1 (hs w1 (ho.mono (by rintro k rfl; exact hd.fd)))
        rw [Int.toNat_of_nonneg i0] at this
        refine this.mono ?_
        rintro e w' ⟨rfl, a1⟩
        exact ⟨rfl, a1⟩
theorem Two.up1 (h : Two w0 w gd g t S R Φ) (hP : S.P.length ≤ 1000000) (A : Option Addr) (n c : Nat) (f : Nat → Nat) (hr : Rd .u8 w A n f) (hf : ∀ j, j < n → f j < 256) (hnc : n ≤ c) (hn : n ≤ 1000000) :
    Calls Try.prog 18 #[.pointer (some ⟨gd, 0, none⟩), .slice A n c] w fun e w' => e = .returned (.tuple #[]) ∧ Two w0 w' gd g t (S.up ((List.range n).map f)) R Φ := by
  refine h.post1 (E := fun e => e = .returned (.tuple #[])) fun F hF hs => ?_
  obtain ⟨gt, gs, ct, cs, vp, xs, VT, VS, hd⟩ := id hF
  exact up_any hd A n c f hr hf hnc hn hP
theorem Two.plan1 (h : Two w0 w gd g t S R Φ) (k : Int) (hk : k ≤ 9223372036854775807) :
    Calls Try.prog 17 #[.pointer (some ⟨gd, 0, none⟩), .int .i64 k] w fun e w' => e = .returned (.tuple #[]) ∧ Two w0 w' gd g t (S.plan k) R Φ := by
  refine h.post1 (E := fun e => e = .returned (.tuple #[])) fun F hF hs => ?_
  obtain ⟨gt, gs, ct, cs, vp, xs, VT, VS, hd⟩ := id hF
  refine (plan_any hd k hk).mono ?_
  rintro e w' ⟨rfl, a1, a2, _⟩
  exact ⟨rfl, .box a1 a2⟩
theorem Two.write2 (h : Two w0 w gd g t S R Φ) (ht : t ≤ 1000000) (hP : R.P.length ≤ 1000000) (i : Int) {a : Option Addr} {c : Nat} {f : Nat → Nat} (hv : ∀ u, Φ u → Sec Any u (.slice a 64 c) f) :
    Calls Try.prog 28 #[.pointer (some ⟨g, 0, none⟩), .int .i64 i, .slice a 64 c] w fun e w' => e = .returned (.int .i64 (R.write i f).2) ∧ Two w0 w' gd g (t + 1) S (R.write i f).1 Φ :=
  h.post2 (E := fun e => e = .returned (.int .i64 (R.write i f).2)) fun _ hG hs _ => rwrite_any hG ht hP i fun w1 ho => hv w1 (hs w1 ho)
theorem Two.plan2 (h : Two w0 w gd g t S R Φ) (k : Int) (hk : k ≤ 9223372036854775807 ∧ -9223372036854775808 ≤ k) :
    Calls Try.prog 29 #[.pointer (some ⟨g, 0, none⟩), .int .i64 k] w fun e w' => e = .returned (.tuple #[]) ∧ Two w0 w' gd g t S (R.plan k) Φ :=
  h.post2 (E := fun e => e = .returned (.tuple #[])) fun _ hG _ _ => rplan_at hG k hk
theorem Two.up2 (h : Two w0 w gd g t S R Φ) (hP : R.P.length ≤ 1000000) (C : Option Addr) (n c : Nat) (f : Nat → Nat) (hr : Rd .u8 w C n f) (hf : ∀ j, j < n → f j < 256) (hC : ∀ ad, C = some ad → 0 < n → ad.block < w0.heap.size) :
    Calls Try.prog 30 #[.pointer (some ⟨g, 0, none⟩), .slice C n c] w fun e w' => e = .returned (.tuple #[]) ∧ Two w0 w' gd g t S (R.up ((List.range n).map f)) Φ :=
  h.post2 (E := fun e => e = .returned (.tuple #[])) fun _ hG _ hG0 => rup_any hG hP C n c f hr hf fun ad e hn hg => by have := hC ad e hn; have := hG0 _ hg; omega
theorem Two.image1 (h : Two w0 w gd g t S R Φ) :
    Calls Try.prog 33 #[.pointer (some ⟨gd, 0, none⟩)] w fun e w' => ∃ a c, e = .returned (.slice a S.n c) ∧ Two w0 w' gd g t S R fun u => Φ u ∧ Img Any u (.slice a S.n c) S.n S.T := by
  have hh := h
  obtain ⟨F, G, Z, ⟨gt, gs, ct, cs, vp, xs, VT, VS, hd⟩, _⟩ := hh
  refine (image_any hd).mono ?_
  rintro e w' ⟨v, rfl, hv, hb⟩
  have hv2 := hv
  obtain ⟨g, c, V, rfl, _⟩ := hv2
  exact ⟨_, c, rfl, h.more hb fun u hu hs => (hv.keep (fun j hj hl => hu j hj hl) hs).any⟩
theorem Two.image2 (h : Two w0 w gd g t S R Φ) :
    Calls Try.prog 34 #[.pointer (some ⟨g, 0, none⟩)] w fun e w' => ∃ a c, e = .returned (.slice a R.n c) ∧ Two w0 w' gd g t S R Φ ∧ Img Any w' (.slice a R.n c) R.n R.T := by
  have hh := h
  obtain ⟨F, G, Z, h1, ⟨_, _, _, _, _, _, _, _, _, _, h2⟩, _⟩ := hh
  refine (rimage_any h2).mono ?_
  rintro e w' ⟨a, c, rfl, hv, hb⟩
  exact ⟨a, c, rfl, h.below hb, hv⟩
theorem Two.n2 (h : Two w0 w gd g t S R Φ) : R.n ≤ 512 := by
  obtain ⟨F, G, Z, h1, ⟨_, _, _, _, _, _, _, _, _, _, h2⟩, _⟩ := h
  exact h2.n2
/-- Both are new. -/
theorem two_new {F : Nat → Prop} (hF : DskAt F w gd S) (hFn : ∀ k, F k → w0.heap.size ≤ k) (hb : Below w0.heap.size w0 w) {G : Nat → Prop} (hG : RAt G w' g t R) (hGn : ∀ k, G k → w.heap.size ≤ k) (hb2 : Below w.heap.size w w') : Two w0 w' gd g t S R fun _ => True := by
  have hl := hF.lt
  have hs := hb.size
  refine ⟨F, G, fun _ => False, hF.keep (fun k hk => hb2.block k (hl k hk)) hb2.size, hG, bbt hb hb2, fun k hk => ⟨hFn k hk, fun hg => ?_, id⟩, fun k hk => ⟨?_, id⟩, fun _ h => h.elim, fun _ _ _ => trivial⟩
  · have := hl k hk; have := hGn k hg; omega
  · have := hGn k hk; omega
end
end Go.Proofs.Yteeomidlnijfbaa

/- Contract: do. -/
namespace Go.Proofs.Yteeomidlnijfbaa
open Go.RowKit

section
variable {w0 w w' : World} {gd g t t' : Nat} {S S' R R' : DS} {Φ Ψ : World → Prop}
theorem write_len (S : DS) (i : Int) (f : Nat → Nat) : (S.write i f).1.P.length ≤ S.P.length + 1 := by
  unfold DS.write
  split
  · exact Nat.le_succ _
  · split
    · split
      · simp [DS.wrote, (begun_P S).2.1]
      · rw [(begun_P S).2.1]; exact Nat.le_succ _
    · exact Nat.le_succ _
end
end Go.Proofs.Yteeomidlnijfbaa
