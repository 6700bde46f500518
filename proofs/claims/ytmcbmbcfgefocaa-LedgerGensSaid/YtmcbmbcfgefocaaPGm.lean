/- Contract: Open. -/
import Derived.Test.YtmcbmbcfgefocaaPGk
import Derived.Deep.RegionLaw
namespace Go.Proofs.Ytmcbmbcfgefocaa
open Go.RowKit Go.Shelf
set_option linter.unusedSimpArgs false
set_option linter.unusedVariables false

section
variable {w0 w w' : World} {gl gd gq : Nat} {S S' : DS} {Q Q' : QS} {v : Value} {rs : List Rec} {Z Z' : Nat → Prop}
/-- A new ledger's block. -/
abbrev newL (w : World) (gd : Nat) : World := w.alloc (.cells #[.pointer (some ⟨gd, 0, none⟩), .pointer none, .slice none 0 0, .bool false] 56)
theorem newL_row (w : World) (gd : Nat) : (newL w gd).rowIs w.heap.size 56 4 (lv (some ⟨gd, 0, none⟩) none (.slice none 0 0) false) := by
  refine ⟨#[.pointer (some ⟨gd, 0, none⟩), .pointer none, .slice none 0 0, .bool false], heap_alloc_new w _, rfl, fun i hi => ?_⟩
  rcases (by omega : i = 0 ∨ i = 1 ∨ i = 2 ∨ i = 3) with rfl | rfl | rfl | rfl <;> rfl
theorem newL_below (w : World) (gd : Nat) : Below w.heap.size w (newL w gd) := below_new _ _
theorem callW_below (w : World) (gl : Nat) : Below w.heap.size w (callW w gl) := (below_new _ _).trans ((below_new _ _).mono (by simp))
theorem callW_size (w : World) (gl : Nat) : (callW w gl).heap.size = w.heap.size + 2 := by simp
theorem callW_boxes (w : World) (gl : Nat) : Boxed (callW w gl) w.heap.size 28 (.pointer (some ⟨gl, 0, none⟩)) ∧ Boxed (callW w gl) (w.heap.size + 1) 25 (.int .i64 0) := by
  refine ⟨(Boxed.new w _ _).alloc _, ?_⟩
  have := Boxed.new (w.alloc (.cells #[.pointer (some ⟨gl, 0, none⟩)] 28)) 25 (.int .i64 0)
  rw [World.size_alloc] at this
  exact this
/-- Nothing was opened. -/
def OpenNo9 (w w' : World) (e : Ending) (k : Int) : Prop := e = .returned (.tuple #[.pointer none, .int .i64 k]) ∧ Below w.heap.size w w'
/-- Opened. -/
def OpenYes9 (w0 w w' : World) (e : Ending) (gd : Nat) (S : DS) (N g : Nat) (Z : Nat → Prop) : Prop :=
  ∃ gl gq rs en l v, e = .returned (.tuple #[.pointer (some ⟨gl, 0, none⟩), .int .i64 0]) ∧ Scn (rdS S) (segQ N g).behind (segQ N g).gen (segQ N g).first 0 rs en l ∧ Led w0 w' gl gd gq S { segQ N g with ende := en, top := topOf (rdS S) (segQ N g).first ((segQ N g).behind - (segQ N g).first) } v rs Z ∧ Kept Z w w'
theorem open_led (hD : HeldD w0 w gd S Z) {N g : Nat} {w2 : World} (h : Loaded w0 (callW (newL w gd) w.heap.size) w2 w.heap.size gd S N g (fun k => Z k ∨ (w.heap.size ≤ k ∧ k < w.heap.size + 3))) :
    CallK (newL w gd) w.heap.size (.returned (.tuple #[])) w2 ∧ OpenYes9 w0 w (w2.setCell ⟨(newL w gd).heap.size + 1, 0, none⟩ (.int .i64 0)) (.returned (.tuple #[.pointer (some ⟨w.heap.size, 0, none⟩), .int .i64 0])) gd S N g Z := by
  obtain ⟨gq, rs, en, l, v, hs, hh, hr, hre, hk⟩ := h
  have hzl : ∀ k, Z k → w0.heap.size ≤ k ∧ k < w.heap.size := by
    obtain ⟨F, d1, d2, d3, d4⟩ := hD
    exact d4
  have h0 := hD.bel.size
  have hsz : (newL w gd).heap.size = w.heap.size + 1 := by simp
  have hcs := callW_size (newL w gd) w.heap.size
  obtain ⟨x1, x2⟩ := callW_boxes (newL w gd) w.heap.size
  rw [hsz] at x1 x2 hcs ⊢
  have y1 : Boxed w2 (w.heap.size + 1) 28 (.pointer (some ⟨w.heap.size, 0, none⟩)) := (hk.1 _ ⟨.inr (by omega), by omega⟩).trans x1
  have y2 : Boxed w2 (w.heap.size + 1 + 1) 25 (.int .i64 0) := (hk.1 _ ⟨.inr (by omega), by omega⟩).trans x2
  refine ⟨⟨by rw [hsz]; exact y1, ⟨_, by rw [hsz]; exact y2⟩, ⟨_, hr⟩, .inl rfl⟩, w.heap.size, gq, rs, en, l, v, rfl, hs, ?_, ?_⟩
  · have hL : Led w0 w2 w.heap.size gd gq S { segQ N g with ende := en, top := topOf (rdS S) (segQ N g).first ((segQ N g).behind - (segQ N g).first) } v rs (fun k => Z k ∨ k = w.heap.size + 1 + 1) := by
      refine ⟨hh.mono fun k hk => ?_, hr, hre.lower (by omega), ?_, fun k e => ?_⟩
      · rcases hk with e | e | e | e
        · exact .inl (.inr (by omega))
        · exact .inr e
        · exact .inl (.inl e)
        · exact .inl (.inr (by omega))
      · rintro (e | e)
        · have := hzl _ e
          omega
        · omega
      · have := hre.base k e
        rintro (e' | e')
        · have := hzl _ e'
          omega
        · omega
    exact (hL.put (.inr rfl) y2 (by decide) (by decide) (.int .i64 0)).new (Below.refl _ _) fun k hk => .inl (.inl hk)
  · refine ⟨fun k hk' => ?_, ?_⟩
    · have hz := hzl k hk'
      refine (Below.heap_setCell w2 ⟨w.heap.size + 1 + 1, 0, none⟩ (.int .i64 0) k (by show k ≠ w.heap.size + 1 + 1; omega)).trans ?_
      exact (hk.1 k ⟨.inl hk', by omega⟩).trans (((newL_below w gd).trans ((callW_below _ _).mono (by simp))).block k hz.2)
    · have := hk.2
      rw [hcs] at this
      show w.heap.size ≤ (w2.setCell _ _).heap.size
      simp [World.setCell]
      omega
set_option maxRecDepth 100000 in
set_option maxHeartbeats 2000000 in
theorem open_yes (hD : HeldD w0 w gd S Z) {N g : Nat} (hn : S.n = N) (hN : 18 ≤ N) (hN2 : N ≤ 512) (hgone : S.gone = false) (hld : S.load = (g, 0)) (hg : g < 4294967296) (hfew : ∀ rs en l, Scn (rdS S) (segQ N g).behind (segQ N g).gen (segQ N g).first 0 rs en l → rs.length ≤ 200) :
    Calls Try.prog 9 #[.pointer (some ⟨gd, 0, none⟩)] w fun e w' => OpenYes9 w0 w w' e gd S N g Z := by
  have hsz : (newL w gd).heap.size = w.heap.size + 1 := by simp
  have hcs := callW_size (newL w gd) w.heap.size
  have hb : Below w.heap.size w (callW (newL w gd) w.heap.size) := (newL_below w gd).trans ((callW_below _ _).mono (by simp))
  have hD2 : HeldD w0 (callW (newL w gd) w.heap.size) gd S (fun k => Z k ∨ (w.heap.size ≤ k ∧ k < w.heap.size + 3)) := hD.ours (.of_below hb) fun k hk => hk.imp id fun e => by rw [hcs, hsz]; omega
  have hr2 := (newL_row w gd).of_block ((callW_below (newL w gd) w.heap.size).block w.heap.size (by rw [hsz]; omega))
  have HC : Hid (Calls Try.prog 23 #[.pointer (some ⟨w.heap.size, 0, none⟩), .func (.func 24) #[.pointer (some ⟨w.heap.size, 0, none⟩)] #[]] (newL w gd) fun e w' => e = .returned (.int .i64 0) ∧ OpenYes9 w0 w w' (.returned (.tuple #[.pointer (some ⟨w.heap.size, 0, none⟩), .int .i64 0])) gd S N g Z) := Lib.hid (by
    refine (call_any (RF := fun e w' => e = .returned (.tuple #[]) ∧ Loaded w0 (callW (newL w gd) w.heap.size) w' w.heap.size gd S N g (fun k => Z k ∨ (w.heap.size ≤ k ∧ k < w.heap.size + 3))) (args := #[.pointer (some ⟨w.heap.size, 0, none⟩)]) (by simp) cf_load (newL_row w gd) (load_yes hD2 (.inr (by omega)) hr2 hn hN hN2 hgone hld hg hfew) fun e w2 h => ?_).mono fun e w' h => ?_
    · obtain ⟨rfl, h⟩ := h
      exact (open_led hD h).1
    · obtain ⟨e1, w2, ⟨rfl, h⟩, hc⟩ := h
      rcases hc with ⟨_, rfl, rfl⟩ | ⟨k, e, _⟩ | ⟨e, _⟩
      · exact ⟨rfl, (open_led hD h).2⟩
      · cases e
      · cases e)
  have hmf : ∀ (fn : Fn) (first cap : Array Value) (w : World), (Instr.makeFunc fn first cap).run Try.prog w = .ok (.func fn first cap) w := fun _ _ _ _ => rfl
  clear hsz hcs hb hD2 hr2 hD hn hgone hld hfew
  go_enter Try.func9, Try.ntmps9
  go_wp2_with (go_at_call 23; refine HC.out.mono ?_; rintro e w2 ⟨rfl, hp⟩; have HP := Lib.hid hp; clear hp)
  go_ret2
  exact HP.out
set_option maxRecDepth 100000 in
set_option maxHeartbeats 2000000 in
theorem open_no {F : Nat → Prop} (hd : DskAt F w gd S) (hn : S.n < 18) : Calls Try.prog 9 #[.pointer (some ⟨gd, 0, none⟩)] w fun e w' => OpenNo9 w w' e 1 := by
  have hsz : (newL w gd).heap.size = w.heap.size + 1 := by simp
  have hb : Below w.heap.size w (callW (newL w gd) w.heap.size) := (newL_below w gd).trans ((callW_below _ _).mono (by simp))
  have hr2 := (newL_row w gd).of_block ((callW_below (newL w gd) w.heap.size).block w.heap.size (by rw [hsz]; omega))
  have HC : Hid (Calls Try.prog 23 #[.pointer (some ⟨w.heap.size, 0, none⟩), .func (.func 24) #[.pointer (some ⟨w.heap.size, 0, none⟩)] #[]] (newL w gd) fun e w' => e = .returned (.int .i64 1) ∧ Below w.heap.size w w') := Lib.hid (by
    refine (call_any (RF := fun e w' => e = refE 1 ∧ callW (newL w gd) w.heap.size = w') (args := #[.pointer (some ⟨w.heap.size, 0, none⟩)]) (by simp) cf_load (newL_row w gd) (load_no (hd.keep (fun k hk => hb.block k (hd.lt k hk)) hb.size) hr2 hn) fun e w2 h => ?_).mono fun e w' h => ?_
    · obtain ⟨rfl, rfl⟩ := h
      obtain ⟨x1, x2⟩ := callW_boxes (newL w gd) w.heap.size
      exact ⟨x1, ⟨_, x2⟩, ⟨_, hr2⟩, .inr (.inl ⟨1, rfl⟩)⟩
    · obtain ⟨e1, w2, ⟨rfl, rfl⟩, hc⟩ := h
      rcases hc with ⟨e, _⟩ | ⟨k, e, rfl, rfl⟩ | ⟨e, _⟩
      · cases e
      · cases e
        exact ⟨rfl, hb.setCell (by show w.heap.size ≤ (newL w gd).heap.size + 1; omega) _⟩
      · cases e)
  have hmf : ∀ (fn : Fn) (first cap : Array Value) (w : World), (Instr.makeFunc fn first cap).run Try.prog w = .ok (.func fn first cap) w := fun _ _ _ _ => rfl
  clear hsz hb hr2 hd hn
  go_enter Try.func9, Try.ntmps9
  go_wp2_with (go_at_call 23; refine HC.out.mono ?_; rintro e w2 ⟨rfl, hp⟩; have HP := Lib.hid hp; clear hp)
  go_ret2
  exact ⟨rfl, HP.out⟩
end
end Go.Proofs.Ytmcbmbcfgefocaa

/- Contract: what Append does. -/
namespace Go.Proofs.Ytmcbmbcfgefocaa
open Go.RowKit Go.Shelf
set_option linter.unusedSimpArgs false
set_option linter.unusedVariables false

/-- How an append ends, by the sectors alone. -/
inductive AppC (S : DS) (Q : QS) (rs : List Rec) (R : RowD) : Ending → DS → QS → List Rec → Prop
  | arg (h : needF R.n = 0) : AppC S Q rs R (refE 1) S Q rs
  | full (h : needF R.n ≠ 0) (hl : 200 ≤ rs.length) : AppC S Q rs R (refE 3) S Q rs
  | bad (h : needF R.n ≠ 0) (hl : rs.length < 200) {S' : DS} {Q' : QS} {k : Int} (ha : AddS S Q 1 (fun _ => R) S' Q' k) (hk : k ≠ 0) : AppC S Q rs R (mustE k) S' Q' rs
  | ok (h : needF R.n ≠ 0) (hl : rs.length < 200) {S' : DS} {Q' : QS} (ha : AddS S Q 1 (fun _ => R) S' Q' 0) : AppC S Q rs R (.returned (.tuple #[])) S' Q' (rs ++ [(R.n, R.f)])
section
variable {w0 w w' : World} {gl gd gq : Nat} {S S' : DS} {Q Q' : QS} {v : Value} {rs : List Rec} {Z Z' : Nat → Prop}
def AppPost (w0 u u' : World) (e : Ending) (gl gd gq : Nat) (S : DS) (Q : QS) (v : Value) (rs : List Rec) (R : RowD) (Z : Nat → Prop) : Prop :=
  ∃ S' Q' v' rs', AppC S Q rs R e S' Q' rs' ∧ Led w0 u' gl gd gq S' Q' v' rs' Z ∧ Kept Z u u'
theorem own_ne_row {b : Nat} {V : Nat → Value} (h : RecsAt w b v rs) (hr : w.rowIs gl 56 4 V) : ∀ k, v.ownBlock = some k → k ≠ gl := fun k e e2 => by
  subst e2
  obtain ⟨vs, h1, _⟩ := h
  obtain ⟨cs, hcs, _⟩ := hr
  rcases h1.2 with ⟨e1, _⟩ | ⟨g, c, cur, e1, _, hgb, _⟩
  · rw [e1] at e; cases e
  · rw [e1] at e
    have : g = k := by simpa [Value.ownBlock] using e
    subst this
    rw [hgb] at hcs
    injection hcs with hcs
    injection hcs with _ h4
    exact absurd h4 (by decide)
/-- The list behind an append, stored. -/
theorem append_fin {w3 w8 w9 : World} {v' : Value} {rs' : List Rec} (hL : Led w0 w3 gl gd gq S Q v rs Z) (hb : Below w3.heap.size w3 w8) (hg : w8.grownBy w9 v.ownBlock) (hre : RecsAt w9 w0.heap.size v' rs') (hv : v'.ownBlock = v.ownBlock ∨ v'.ownBlock = some w8.heap.size) :
    w9.cell? ⟨gl, 2, none⟩ = some v ∧ w9.frozen? ⟨gl, 2, none⟩ = false ∧ Led w0 (w9.setCell ⟨gl, 2, none⟩ v') gl gd gq S Q v' rs' Z ∧ Kept Z w3 (w9.setCell ⟨gl, 2, none⟩ v') := by
  obtain ⟨h1, h2, h3, h4, h5⟩ := hL
  have hne := own_ne_row h3 h2
  have h8 := hb.size
  have hlt := h2.lt
  have hr8 := h2.of_block (hb.block gl hlt)
  have hr9 : w9.rowIs gl 56 4 (lv (some ⟨gd, 0, none⟩) (some ⟨gq, 0, none⟩) v false) := hr8.of_block (hg.block gl hr8.lt fun e => hne gl e.symm rfl)
  have ho : Only (GLd gl v Z) w3 (w9.setCell ⟨gl, 2, none⟩ v') := ((Only.of_below hb).grown hg fun k e => .inl (.inr (.inl e))).setCell (a := ⟨gl, 2, none⟩) (.inl (.inl rfl)) v'
  have hin : ∀ k, v'.ownBlock = some k → k < w9.heap.size := fun k e => by
    obtain ⟨vs, a1, _⟩ := hre
    rcases a1.2 with ⟨e1, _⟩ | ⟨g, c, cur, e1, _, hgb, _⟩
    · rw [e1] at e; cases e
    · rw [e1] at e
      have : g = k := by simpa [Value.ownBlock] using e
      subst this
      exact (Array.getElem?_eq_some_iff.1 hgb).1
  have hs9 : (w9.setCell ⟨gl, 2, none⟩ v').heap.size = w9.heap.size := by simp [World.setCell]
  have hz3 : ∀ k, Z k → k < w3.heap.size := fun k hk => by
    obtain ⟨F, a1, a2, a3, a4, a5, a6⟩ := h1
    exact (a6 k (.inr (.inr hk))).2
  refine ⟨hr9.cell (i := 2) (by omega), hr9.frozen 2, ⟨h1.ours ho fun k hk => ?_, (hr9.set 2 v').congr fun i hi => ?_, ?_, h4, fun k e hz => ?_⟩, fun k hk => ?_, by rw [hs9]; exact Nat.le_trans h8 hg.size⟩
  · rcases hk with e | e | e
    · exact .inl (.inl e)
    · rcases hv with e2 | e2
      · exact .inl (.inr (.inl (e2 ▸ e)))
      · rw [e2] at e
        injection e with e
        have := hin k (by rw [e2, e])
        rw [hs9]
        exact .inr (by omega)
    · exact .inl (.inr (.inr e))
  · rcases (by omega : i = 0 ∨ i = 1 ∨ i = 2 ∨ i = 3) with rfl | rfl | rfl | rfl <;> rfl
  · refine hre.fr (Ts := fun _ => False) (Bs := fun k => k = gl) (Fr.set (Ts := fun _ => False) (Bs := fun k => k = gl) (w := w9) Fr.refl (B := gl) (i := 2) rfl v') id id fun g hg c m => ?_
    obtain rfl : g = gl := hg
    obtain ⟨cs, hcs, _⟩ := hr9
    rw [hcs]
    exact ⟨fun e => by simp at e, fun e => by simp at e⟩
  · rcases hv with e2 | e2
    · exact h5 k (e2 ▸ e) hz
    · rw [e2] at e
      injection e with e
      have := hz3 k hz
      omega
  · have hk3 := hz3 k hk
    refine (Below.heap_setCell w9 ⟨gl, 2, none⟩ v' k fun e => h4 (by have e : k = gl := e; exact e ▸ hk)).trans ?_
    exact (hg.block k (by omega) fun e => h5 k e.symm hk).trans (hb.block k hk3)
/-- A list of one record, as it is handed to Add. -/
theorem more_in {u : World} {A : Option Addr} {n c : Nat} {f : Nat → Nat} (hrec : ∀ V, Kept Z u V → Byt V (.slice A n c) n f) (hn : n ≤ 9223372036854775807) {V : World} (hk : Kept (fun k => Z k ∨ k = u.heap.size) (u.alloc (.cells #[.slice A n c] 35)) V) (hz : ∀ k, Z k → k < u.heap.size) : RowsIn V (some ⟨u.heap.size, 0, none⟩) 1 (fun _ => ⟨A, n, c, f⟩) := fun i hi => by
  obtain rfl : i = 0 := by omega
  have hl : Boxed V u.heap.size 35 (.slice A n c) := (hk.1 _ (.inr rfl)).trans (Boxed.new u 35 (.slice A n c))
  refine ⟨_, rfl, hl.cell, hrec V ⟨fun k hz' => (hk.1 k (.inl hz')).trans ((below_new u _).block k (hz k hz')), ?_⟩, hn⟩
  have := hk.2
  rw [World.size_alloc] at this
  omega
/-- Behind an Add the ledger's list is as it was. -/
theorem led_added {w1 w3 : World} (hL : Led w0 w1 gl gd gq S Q v rs Z) (hh : HeldG w0 w3 gd gq S' Q' (GLd gl v Z)) (hk : Kept (GLd gl v Z) w1 w3) (hf : FrA w1 w3) : Led w0 w3 gl gd gq S' Q' v rs Z := by
  obtain ⟨h1, h2, h3, h4, h5⟩ := hL
  refine ⟨hh, h2.of_block (hk.1 gl (.inl rfl)), ?_, h4, h5⟩
  obtain ⟨vs, a1, a2⟩ := h3
  refine ⟨vs, ⟨a1.1, ?_⟩, fun i r hi => ?_⟩
  · rcases a1.2 with hn | ⟨g, c, cur, e, b1, b2, r⟩
    · exact .inl hn
    · exact .inr ⟨g, c, cur, e, b1, (hk.1 g (.inr (.inl (by rw [e]; rfl)))).trans b2, r⟩
  · obtain ⟨u, hu, hb, ht⟩ := a2 i r hi
    exact ⟨u, hu, byt_typ hf hb ht (fun _ _ => id) (by unfold tyA tyW; decide)⟩
end
end Go.Proofs.Ytmcbmbcfgefocaa
