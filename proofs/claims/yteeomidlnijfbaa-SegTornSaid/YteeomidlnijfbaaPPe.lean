/- What the walks of SegTorn and SegKeeps carry. -/
import Derived.Test.YteeomidlnijfbaaPPc
namespace Go.Proofs.Yteeomidlnijfbaa
open Go.RowKit Go.Shelf
set_option linter.unusedSimpArgs false
set_option linter.unusedVariables false

section
variable {w0 w w' w'' : World} {gd gq : Nat} {S S' : DS} {Q Q' : QS} {G G' : Nat → Prop}
/-- A scan; what is new is ours. -/
theorem HeldG.scanN (h : HeldG w0 w gd gq S Q G) (hg : S.gone = false) :
    Calls Try.prog 14 #[.pointer (some ⟨gq, 0, none⟩)] w fun e w' => ∃ rs en v l, e = .returned (.tuple #[v, .int .i64 0]) ∧ Scn (rdS S) Q.behind Q.gen Q.first 0 rs en l ∧ RecsAt w' w.heap.size v rs ∧ HeldG w0 w' gd gq S { Q with ende := en, top := topOf (rdS S) Q.first (Q.behind - Q.first) } (fun k => G k ∨ (w.heap.size ≤ k ∧ k < w'.heap.size)) ∧ Kept G w w' ∧ (Only (· = gq) w w' ∧ SBox w gq gd Q) := by
  obtain ⟨F, h1, h2, h3, h4, h5, h6⟩ := h
  refine (scan_any h1 h2 hg).mono ?_
  rintro e w' ⟨rs, en, v, l, rfl, hs, hr, hq, ho⟩
  have hl := h1.lt
  have hlq := h2.lt
  have hsz := ho.size
  have h0 := h3.size
  obtain ⟨⟨F', a1, a2, a3, a4, a5, a6⟩, a7⟩ := HeldG.turn (G := G) h1 h2 h3 h4 h5 h6 (h1.keep (fun k hk => ho.block k (h1.lt k hk) fun e => h4.2.1 (e ▸ hk)) ho.size) (fun k hk => .inl hk) hq (ho.mono fun k e => .inr e)
  refine ⟨rs, en, v, l, rfl, hs, hr, ⟨F, h1.keep (fun k hk => ho.block k (h1.lt k hk) fun e => h4.2.1 (e ▸ hk)) ho.size, hq, a3, ⟨h4.1, h4.2.1, fun e => ?_⟩, fun k hk => ⟨(h5 k hk).1, fun e => ?_⟩, fun k hk => ?_⟩, a7, ho, h2⟩
  · rcases e with e | e
    · exact h4.2.2 e
    · omega
  · rcases e with e | e
    · exact (h5 k hk).2 e
    · have := hl k hk; omega
  · rcases hk with e | e
    · have := h6 k e; omega
    · omega
/-- A list of records, later. -/
theorem RecsAt.later {base : Nat} {v : Value} {rs : List Rec} (h : RecsAt w base v rs) (hk : ∀ k, base ≤ k → k < w.heap.size → w'.heap[k]? = w.heap[k]?) (hf : FrA w w') : RecsAt w' base v rs := by
  obtain ⟨vs, h1, h2⟩ := h
  refine ⟨vs, ⟨h1.1, ?_⟩, fun i r hr => ?_⟩
  · rcases h1.2 with hn | ⟨g, c, cur, rfl, a1, a2, r⟩
    · exact .inl hn
    · exact .inr ⟨g, c, cur, rfl, a1, (hk g a1 (Array.getElem?_eq_some_iff.1 a2).1).trans a2, r⟩
  · obtain ⟨u, hu, hb, ht⟩ := h2 i r hr
    exact ⟨u, hu, byt_typ hf hb ht (fun _ _ => id) (by unfold tyA tyW; decide)⟩
theorem RecsAt.scanned {base : Nat} {v : Value} {rs : List Rec} (h : RecsAt w base v rs) (hq : SBox w gq gd Q) (ho : Only (· = gq) w w') : RecsAt w' base v rs := by
  have hf0 : Fr (fun _ => False) (· = gq) w w' := ⟨ho.os, ho.tape, ho.output, ho.size, fun k o hk hn _ => (ho.block k (Array.getElem?_eq_some_iff.1 hk).1 hn).trans hk⟩
  refine h.fr hf0 id id fun g hg c m => ?_
  obtain rfl : g = gq := hg
  obtain ⟨cs, hh, _⟩ := hq.1
  rw [hh]
  exact ⟨(fun e => by simp at e), (fun e => by simp at e)⟩
/-- Something is done to the disk. -/
theorem HeldG.post (h : HeldG w0 w gd gq S Q G) {f : FuncId} {args : Array Value} {E : Ending → Prop} (hp : ∀ F, DskAt F w gd S → Calls Try.prog f args w fun e w' => E e ∧ DPost F w w' gd S') :
    Calls Try.prog f args w fun e w' => E e ∧ HeldG w0 w' gd gq S' Q G ∧ Kept G w w' := by
  obtain ⟨F, h1, h2, h3, h4, h5, h6⟩ := h
  refine (hp F h1).mono ?_
  rintro e w' ⟨hE, F', g1, ho, g2⟩
  exact ⟨hE, HeldG.turn h1 h2 h3 h4 h5 h6 g1 g2 (h2.of_block (ho.block gq h2.lt h4.2.1)) (ho.mono fun k e => .inl e)⟩
theorem HeldG.dwrite (h : HeldG w0 w gd gq S Q G) (hP : S.P.length ≤ 1000000) (i : Nat) {a : Option Addr} {c : Nat} {f : Nat → Nat} (hv : Byt w (.slice a 64 c) 64 f) :
    Calls Try.prog 22 #[.pointer (some ⟨gd, 0, none⟩), .int .i64 (i : Nat), .slice a 64 c] w fun e w' => e = .returned (.int .i64 (S.write (i : Nat) f).2) ∧ HeldG w0 w' gd gq (S.write (i : Nat) f).1 Q G ∧ Kept G w w' :=
  h.post (E := fun e => e = .returned (.int .i64 (S.write (i : Nat) f).2)) fun F hF => (dwrite_any hF hP i hv).mono fun e w' hp => ⟨hp.1, hp.2.1⟩
theorem HeldG.dup (h : HeldG w0 w gd gq S Q G) (hP : S.P.length ≤ 1000000) (A : Option Addr) (n c : Nat) (f : Nat → Nat) (hr : Rd .u8 w A n f) (hf : ∀ j, j < n → f j < 256) (hnc : n ≤ c) (hn : n ≤ 1000000) :
    Calls Try.prog 18 #[.pointer (some ⟨gd, 0, none⟩), .slice A n c] w fun e w' => e = .returned (.tuple #[]) ∧ HeldG w0 w' gd gq (S.up ((List.range n).map f)) Q G ∧ Kept G w w' :=
  h.post (E := fun e => e = .returned (.tuple #[])) fun F hF => by
    obtain ⟨gt, gs, ct, cs, vp, xs, VT, VS, hd⟩ := hF
    exact up_any hd A n c f hr hf hnc hn hP
end
/-- A list of rows as it is handed to Add. -/
theorem ListG.rows {G : Nat → Prop} {w : World} {base : Nat} {v : Value} {rs : List Rec} (h : ListG G w base v rs) : ∃ (A : Option Addr) (c : Nat) (R : Nat → RowD), v = .slice A rs.length c ∧ (∀ (i : Nat) (r : Rec), rs[i]? = some r → (R i).n = r.1 ∧ (R i).f = r.2) ∧ ∀ u, Kept G w u → RowsIn u A rs.length R := by
  obtain ⟨A, c, e⟩ := h.form
  have each : ∀ i : Nat, ∃ R : RowD, ∀ r : Rec, rs[i]? = some r → R.n = r.1 ∧ R.f = r.2 ∧ ∀ u, Kept G w u → ∃ ad, A = some ad ∧ u.cell? (ad.add i) = some (.slice R.A R.n R.c) ∧ Byt u (.slice R.A R.n R.c) R.n R.f ∧ R.n ≤ 9223372036854775807 := fun i => by
    by_cases hi : i < rs.length
    · obtain ⟨vs, h1, h2, h3⟩ := h
      obtain ⟨u0, a1, a2, a3, a4, a5⟩ := h3 i _ (List.getElem?_eq_getElem hi)
      obtain ⟨B, d, rfl, _⟩ := id a2
      refine ⟨⟨B, rs[i].1, d, rs[i].2⟩, fun r hr => ?_⟩
      rw [List.getElem?_eq_getElem hi] at hr
      injection hr with hr
      subst hr
      refine ⟨rfl, rfl, fun u hk => ?_⟩
      rcases h1.2 with ⟨_, h0⟩ | ⟨g, c', cur, e', _, hgb, _⟩
      · omega
      · rw [e] at e'
        cases e'
        rw [e] at h1 h2
        have hcell := h1.cells rfl i _ a1
        refine ⟨_, rfl, ?_, (byt_kept a2 a3 a5 fun k hk' _ => hk.1 k hk').1, by show rs[i].1 ≤ _; omega⟩
        exact (World.cell?_of_block (by rw [add_block]; exact hk.1 g (h2 g rfl))).trans hcell
    · exact ⟨⟨none, 0, 0, fun _ => 0⟩, fun r hr => by rw [List.getElem?_eq_none (by omega)] at hr; cases hr⟩
  obtain ⟨R, hR⟩ := Classical.axiomOfChoice each
  exact ⟨A, c, R, e, fun i r hr => ⟨(hR i r hr).1, (hR i r hr).2.1⟩, fun u hk i hi => (hR i _ (List.getElem?_eq_getElem hi)).2.2 u hk⟩
/-- A list of numbers, in a block that is ours. -/
def ListI (G : Nat → Prop) (w : World) (base : Nat) (v : Value) (n : Nat) (f : Nat → Nat) : Prop := w.ownsRow base 3 1 v n ((List.range n).map fun j => Value.int .i64 (f j : Nat)) ∧ ∀ k, v.ownBlock = some k → G k
section
variable {G G' : Nat → Prop} {w w' : World} {base : Nat} {v v' : Value} {n : Nat} {f : Nat → Nat}
theorem ListI.nil : ListI G w base (.slice none 0 0) 0 f := ⟨⟨rfl, .inl ⟨rfl, rfl⟩⟩, fun k h => by cases h⟩
theorem ListI.keep (h : ListI G w base v n f) (hk : ∀ k, v.ownBlock = some k → k < w.heap.size → w'.heap[k]? = w.heap[k]?) : ListI G w' base v n f := by
  refine ⟨⟨h.1.1, ?_⟩, h.2⟩
  rcases h.1.2 with hn | ⟨g, c, cur, rfl, a1, a2, r⟩
  · exact .inl hn
  · exact .inr ⟨g, c, cur, rfl, a1, (hk g rfl (Array.getElem?_eq_some_iff.1 a2).1).trans a2, r⟩
theorem ListI.kept (h : ListI G w base v n f) (hk : Kept G w w') : ListI G w' base v n f := h.keep fun k e _ => hk.1 k (h.2 k e)
theorem ListI.below (h : ListI G w base v n f) (hb : Below w.heap.size w w') : ListI G w' base v n f := h.keep fun k _ hl => hb.block k hl
theorem ListI.mono (h : ListI G w base v n f) (hg : ∀ k, G k → G' k) : ListI G' w base v n f := ⟨h.1, fun k e => hg k (h.2 k e)⟩
/-- A row is appended to another list. -/
theorem ListI.grown (h : ListI G w base v n f) {u : Value} {k : Nat} {xs : List Value} {t : TypeId} {b : Nat} (hu : w.ownsRow b t 1 u k xs) (ht : t ≠ 3) (hgr : w.grownBy w' u.ownBlock) : ListI G w' base v n f := h.keep fun k e hl => hgr.block k hl fun e' => by
  rcases h.1.2 with ⟨e1, _⟩ | ⟨g, c, cur, e1, _, hgb, _⟩
  · rw [e1] at e; cases e
  · rw [e1] at e
    have h1 : g = k := by simpa [Value.ownBlock] using e
    subst h1
    rcases hu.2 with ⟨e2, _⟩ | ⟨g2, c2, cur2, e2, _, hgb2, _⟩
    · rw [e2] at e'; cases e'
    · rw [e2] at e'
      have h2 : g = g2 := by simpa [Value.ownBlock] using e'
      subst h2
      rw [hgb] at hgb2
      injection hgb2 with hgb2
      injection hgb2 with _ h3
      exact ht h3.symm
theorem ListI.at_ (h : ListI G w base v n f) {j : Nat} (hj : j < n) : ∃ g c, v = .slice (some ⟨g, 0, none⟩) n c ∧ w.cell? ⟨g, j, none⟩ = some (.int .i64 (f j : Nat)) := by
  rcases h.1.2 with ⟨_, h0⟩ | ⟨g, c, cur, e, _⟩
  · omega
  · have h1 := h.1
    rw [e] at h1
    have := h1.cells rfl j (.int .i64 (f j : Nat)) (by simp [hj])
    rw [add_mk, Nat.zero_add] at this
    exact ⟨g, c, e, this⟩
theorem ListI.form (h : ListI G w base v n f) : ∃ A c, v = .slice A n c := by
  rcases h.1.2 with ⟨e, h0⟩ | ⟨g, c, cur, e, _⟩
  · exact ⟨none, 0, by rw [e, h0]⟩
  · exact ⟨_, c, e⟩
end
end Go.Proofs.Yteeomidlnijfbaa

/- SegTorn: what its rounds need. -/
namespace Go.Proofs.Yteeomidlnijfbaa
open Go.RowKit Go.Shelf
set_option linter.unusedSimpArgs false
set_option linter.unusedVariables false

def sumF (NN : Nat → Nat) : Nat → Nat
  | 0 => 0
  | k + 1 => sumF NN k + needF (NN k)
def recZ (NN : Nat → Nat) (i : Nat) : List Rec := (List.range i).map fun j => (NN j, rowZ j)
theorem recZ_len (NN : Nat → Nat) (i : Nat) : (recZ NN i).length = i := by simp [recZ]
theorem recZ_succ (NN : Nat → Nat) (i : Nat) : recZ NN (i + 1) = recZ NN i ++ [(NN i, rowZ i)] := by simp [recZ, List.range_succ]
theorem recZ_at {NN : Nat → Nat} {m i : Nat} (h : i < m) : (recZ NN m)[i]? = some (NN i, rowZ i) := by simp [recZ, h]
theorem sum_is {NN : Nat → Nat} {R : Nat → RowD} : ∀ {i : Nat}, (∀ j, j < i → (R j).n = NN j) → sumN R i = sumF NN i
  | 0, _ => rfl
  | i + 1, h => by
    show sumN R i + needF (R i).n = sumF NN i + needF (NN i)
    rw [sum_is fun j hj => h j (by omega), h i (by omega)]
theorem recs_are {NN : Nat → Nat} {R : Nat → RowD} {i : Nat} (h : ∀ j, j < i → (R j).n = NN j ∧ (R j).f = rowZ j) : recsOf R i = recZ NN i := by
  unfold recsOf recZ
  apply List.map_congr_left
  intro j hj
  have := h j (List.mem_range.1 hj)
  rw [this.1, this.2]
theorem sumF_le (NN : Nat → Nat) (h : ∀ j, NN j ≤ 98) : ∀ i, sumF NN i ≤ 2 * i
  | 0 => Nat.le_refl _
  | i + 1 => by
    have := sumF_le NN h i
    have h1 : needF (NN i) ≤ 2 := by have := h i; unfold needF; split <;> omega
    show sumF NN i + needF (NN i) ≤ _
    omega
theorem sumF_mono (NN : Nat → Nat) {a b : Nat} (h : a ≤ b) : sumF NN a ≤ sumF NN b := by
  induction b with
  | zero => obtain rfl : a = 0 := by omega
            exact Nat.le_refl _
  | succ b ih =>
    by_cases e : a = b + 1
    · subst e; exact Nat.le_refl _
    · exact Nat.le_trans (ih (by omega)) (Nat.le_add_right _ _)
section
variable {G G' : Nat → Prop} {w w' : World} {base : Nat} {v v' : Value} {rs : List Rec}
/-- A list of rows stays where blocks of its types do. -/
theorem ListG.typed (h : ListG G w base v rs) (hk : ∀ (k : Nat) c t m, w.heap[k]? = some (Obj.cells c t m) → (t = 5 ∨ t = 35) → w'.heap[k]? = w.heap[k]?) : ListG G w' base v rs := by
  obtain ⟨vs, h1, h2, h3⟩ := h
  refine ⟨vs, ⟨h1.1, ?_⟩, h2, fun i r hi => ?_⟩
  · rcases h1.2 with hn | ⟨g, c, cur, rfl, a1, a2, r⟩
    · exact .inl hn
    · exact .inr ⟨g, c, cur, rfl, a1, (hk g _ _ _ a2 (.inr rfl)).trans a2, r⟩
  · obtain ⟨u, hu, hb, ht, hl, hg⟩ := h3 i r hi
    obtain ⟨hb', ht'⟩ := byt_kept (G := fun k => u.ownBlock = some k) hb ht (fun k e => e) (w' := w') fun k e _ => by
      obtain ⟨cs, m, hh⟩ := ht k e
      exact hk k _ _ _ hh (.inl rfl)
    exact ⟨u, hu, hb', ht', hl, hg⟩
end
/-- A row is made, its first byte set. -/
theorem torn_made {w wr w5 : World} {gd gq : Nat} {S : DS} {Q : QS} {G : Nat → Prop} {n x : Nat} (h : HeldG w wr gd gq S Q G) (hr : w5.rowIs wr.heap.size 5 n fun _ => .int .u8 0) (hb : Below wr.heap.size wr w5) (hs : w5.heap.size = wr.heap.size + 1) (hn : 1 ≤ n) (hx : x < 256) :
    HeldG w (w5.setCell ⟨wr.heap.size, 0, none⟩ (.int .u8 (x : Nat))) gd gq S Q (fun k => G k ∨ k = wr.heap.size) ∧ (Byt (w5.setCell ⟨wr.heap.size, 0, none⟩ (.int .u8 (x : Nat))) (.slice (some ⟨wr.heap.size, 0, none⟩) n n) n (rowZ x) ∧ Typ8 (w5.setCell ⟨wr.heap.size, 0, none⟩ (.int .u8 (x : Nat))) (.slice (some ⟨wr.heap.size, 0, none⟩) n n)) ∧ Below wr.heap.size wr (w5.setCell ⟨wr.heap.size, 0, none⟩ (.int .u8 (x : Nat))) ∧ (w5.setCell ⟨wr.heap.size, 0, none⟩ (.int .u8 (x : Nat))).heap.size = w5.heap.size := by
  have hs1 : (w5.setCell ⟨wr.heap.size, 0, none⟩ (.int .u8 (x : Nat))).heap.size = w5.heap.size := by simp [World.setCell]
  have hbV : Below wr.heap.size wr (w5.setCell ⟨wr.heap.size, 0, none⟩ (.int .u8 (x : Nat))) := hb.setCell (Nat.le_refl _) _
  exact ⟨h.ours (.of_below hbV) fun k hk => hk.imp id fun e => by omega, row_made hr hn hx, hbV, hs1⟩
/-- A row is appended to the list. -/
theorem torn_app {w w7 : World} {gd gq : Nat} {S : DS} {Q : QS} {G : Nat → Prop} {A : Option Addr} {n c : Nat} {f : Nat → Nat} {v vi : Value} {rs : List Rec} {m : Nat} {fi : Nat → Nat} (h : HeldG w w7 gd gq S Q G) (hl : ListG G w7 w.heap.size v rs) (hi : ListI G w7 w.heap.size vi m fi) (hb : Byt w7 (.slice A n c) n f) (ht : Typ8 w7 (.slice A n c)) (hn : n ≤ 1000000) (ho : ∀ k, (Value.slice A n c).ownBlock = some k → G k) :
    AppFits w (w7.alloc (.cells #[.slice A n c] 35)) w7.heap.size v (.slice A n c) rs.length fun v' w' => ∃ G5, HeldG w w' gd gq S Q G5 ∧ ListG G5 w' w.heap.size v' (rs ++ [(n, f)]) ∧ ListI G5 w' w.heap.size vi m fi := by
  have hbn := below_new w7 (.cells #[.slice A n c] 35)
  obtain ⟨vs, o1, o2, o3⟩ := hl.below hbn
  have hi8 := hi.below hbn
  have h8 := h.below hbn
  refine ⟨vs, o1, fun j u hu => ?_, fun u hu => ?_, h8.bel.size, fun v' w' a1 a2 a3 => ?_⟩
  · cases j with
    | zero =>
      simp at hu
      subst hu
      exact (Boxed.new w7 35 (.slice A n c)).cell
    | succ j => simp at hu
  · simp at hu
    subst hu
    rfl
  · refine ⟨fun k => G k ∨ ((w7.alloc (.cells #[.slice A n c] 35)).heap.size ≤ k ∧ k < w'.heap.size), h8.ours (only_grown a2 o2) fun k hk => hk, ListG.snoc o1 o2 o3 (hb.below hbn) (ht.below hbn) hn ho a1 a2 a3 (fun k hk => .inl hk) fun hlt => .inr ⟨Nat.le_refl _, hlt⟩, ?_⟩
    exact (hi8.grown o1 (by decide) a2).mono fun k hk => .inl hk
theorem int_info7 : (Try.prog.info? 3).map (fun i => (i.zero, i.size, i.bytes)) = some (some (.int .i64 0), 1, 8) := by kernel_rfl
/-- A number is appended to a list of ours: what the append needs, and what is behind it. -/
def AppFitsI (w w8 : World) (lb : Nat) (v : Value) (x : Nat) (m : Nat) (R : Value → World → Prop) : Prop :=
  ∃ vs, w8.ownsRow w.heap.size 3 1 v m vs ∧ (∀ (j : Nat) (u : Value), [Value.int .i64 (x : Nat)][j]? = some u → w8.cell? ((⟨lb, 0, none⟩ : Addr).add j) = some u) ∧ (∀ u ∈ [Value.int .i64 (x : Nat)], u.oneCell' = true) ∧ w.heap.size ≤ w8.heap.size ∧ ∀ v' w', w'.ownsRow w.heap.size 3 1 v' (m + 1) (vs ++ [Value.int .i64 (x : Nat)]) → w8.grownBy w' v.ownBlock → (v'.ownBlock = v.ownBlock ∨ v'.ownBlock = some w8.heap.size) → R v' w'
theorem torn_int {w w7 : World} {gd gq : Nat} {S : DS} {Q : QS} {G : Nat → Prop} {v vi : Value} {rs : List Rec} {m x : Nat} {fi : Nat → Nat} (h : HeldG w w7 gd gq S Q G) (hl : ListG G w7 w.heap.size v rs) (hi : ListI G w7 w.heap.size vi m fi) (hx : x = fi m) :
    AppFitsI w (w7.alloc (.cells #[.int .i64 (x : Nat)] 3)) w7.heap.size vi x m fun v' w' => ∃ G5, HeldG w w' gd gq S Q G5 ∧ ListG G5 w' w.heap.size v rs ∧ ListI G5 w' w.heap.size v' (m + 1) fi := by
  subst hx
  have hbn := below_new w7 (.cells #[.int .i64 (fi m : Nat)] 3)
  have hl8 := hl.below hbn
  obtain ⟨o1, o2⟩ := hi.below hbn
  have h8 := h.below hbn
  refine ⟨_, o1, fun j u hu => ?_, fun u hu => ?_, h8.bel.size, fun v' w' a1 a2 a3 => ?_⟩
  · cases j with
    | zero =>
      simp at hu
      subst hu
      exact (Boxed.new w7 3 (.int .i64 (fi m : Nat))).cell
    | succ j => simp at hu
  · simp at hu
    subst hu
    rfl
  · refine ⟨fun k => G k ∨ ((w7.alloc (.cells #[.int .i64 (fi m : Nat)] 3)).heap.size ≤ k ∧ k < w'.heap.size), h8.ours (only_grown a2 o2) fun k hk => hk, ?_, ?_, fun k hk => ?_⟩
    · refine (hl8.typed fun k c t mm hk ht => a2.block k (Array.getElem?_eq_some_iff.1 hk).1 fun e => ?_).mono fun k hk => .inl hk
      rcases o1.2 with ⟨e1, _⟩ | ⟨g, c', cur, e1, _, hgb, _⟩
      · rw [e1] at e; cases e
      · rw [e1] at e
        have h1 : k = g := by simpa [Value.ownBlock] using e
        subst h1
        rw [hk] at hgb
        injection hgb with hgb
        injection hgb with _ h3
        rcases ht with ht | ht <;> (rw [ht] at h3; exact absurd h3 (by decide))
    · rw [List.range_succ, List.map_append]
      exact a1
    · rcases a3 with e | e
      · exact .inl (o2 k (e ▸ hk))
      · rw [e] at hk
        injection hk with hk
        subst hk
        rcases a1.2 with ⟨e1, _⟩ | ⟨g, c', cur, e1, _, hgb, _⟩
        · rw [e1] at e; cases e
        · rw [e1] at e
          have h1 : g = (w7.alloc (.cells #[.int .i64 (fi m : Nat)] 3)).heap.size := by simpa [Value.ownBlock] using e
          exact .inr ⟨Nat.le_refl _, h1 ▸ (Array.getElem?_eq_some_iff.1 hgb).1⟩
end Go.Proofs.Yteeomidlnijfbaa
